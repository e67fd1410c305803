/-
  Entries loaded, stored and answered whole; what the document's own tables answer: Has, holder, Holder, Blocks (hourglassref10: Table).
  What the document's own tables answer: Holder, Blocks, Least (hourglassref10: Table).
  What the document's own tables answer: Drop (hourglassref10: Table).
  Lists of entries cut in two; one entry as a list; a list of writes copied.
-/
import Derived.Test.YtmiafadmcpmjgaaRefPrep1
import Derived.Deep.MidRow
import Derived.Deep.Slices
namespace Go.Proofs.Ytmiafadmcpmjgaa
open Go.RowKit
set_option linter.unusedVariables false

theorem info_ent : (Try.prog.info? 93).map (·.size) = some 6 := by kernel_rfl
/-- One entry in memory of the call's own. -/
structure EntMine (w : World) (b : Nat) (x : EntM) : Prop where
  at_ : EntAt w b 0 x
  free : ∀ i, i < 6 → w.frozen? ⟨b, 0 + i, none⟩ = false
theorem EntAt.lt {w : World} {b o : Nat} {x : EntM} (h : EntAt w b o x) : b < w.heap.size := cell_lt h.cells.1
theorem EntMine.made (w : World) (T : TypeId) (x : EntM) : EntMine (w.alloc (.cells (encE x).toArray T)) w.heap.size x :=
  ⟨⟨lies_made w (encE x).toArray T⟩, fun i hi => World.frozen?_alloc_new _ _ _ _⟩
theorem EntMine.past {w w' : World} {b : Nat} {x : EntM} (h : EntMine w b x) (hb : Below w.heap.size w w') : EntMine w' b x :=
  ⟨h.at_.past hb, fun i hi => by rw [hb.frozen (p := ⟨b, 0 + i, none⟩) h.at_.lt]; exact h.free i hi⟩
theorem EntMine.there {w : World} {b : Nat} {x : EntM} (h : EntMine w b x) : w.there b 0 6 := fun j hj => by
  obtain ⟨u, hu⟩ : ∃ u, (encE x)[j]? = some u := ⟨_, List.getElem?_eq_getElem (by rw [encE_len]; exact hj)⟩
  exact ⟨by rw [h.at_.lies.at j u hu]; rfl, h.free j hj⟩
theorem EntMine.store {w : World} {b : Nat} {x x' : EntM} (h : EntMine w b x) : EntMine (w.setCells b 0 (encE x')) b x' := by
  have ht := h.there
  rw [← encE_len x'] at ht
  exact ⟨⟨lies_of (World.rangeAt_setCells_same w b 0 (encE x') ht)⟩, fun i hi => by rw [World.frozen?_setCells]; exact h.free i hi⟩
theorem wpList_load_ent (d : Tmp) {ops : Array Oper} {rest : List Oper} {op : Oper} {a : Act} {w : World} {Q : Exit → Act → World → Prop} (hd : op.dst = some d) (hw : Region.wanted op (yielded ops a.tmps) = true) (x : Operand) (ho : op.op = .load 93 x)
    (b o : Nat) (hx : a.eval x = .pointer (some ⟨b, o, none⟩)) (X : EntM) (hat : EntAt w b o X)
    (h : wpList Try.prog ops Q rest (a.put op.dst (ev X)) w) : wpList Try.prog ops Q (op :: rest) a w :=
  wpList_step fun K hK => by
    rw [if_pos hw]
    exact wp_load_mid 93 x ho b o hx (encE X) _ hat.lies.range Try.underlying93 rfl (by rw [info_ent, encE_len]) (hK _ _ h)
theorem wpList_store_ent (d : Operand) {ops : Array Oper} {rest : List Oper} {op : Oper} {a : Act} {w : World} {Q : Exit → Act → World → Prop} (hgd : op.guard = none) (y : Operand) (ho : op.op = .store 93 d y)
    (b : Nat) (X X' : EntM) (hx : a.eval d = .pointer (some ⟨b, 0, none⟩)) (hy : a.eval y = ev X') (hat : EntMine w b X)
    (h : ∀ u, u = w.setCells b 0 (encE X') → wpList Try.prog ops Q rest (a.put op.dst undef) u) : wpList Try.prog ops Q (op :: rest) a w := by
  refine wpList_store_mid hgd 93 d y ho b 0 (encE X').toArray hx hy (by rw [show (encE X').toArray.size = 6 from rfl]; exact hat.there) (by rw [info_ent]; rfl) (encE_all X') ?_
  exact h _ rfl
theorem results_ent {fn : Func} {c t : Tmp} (h : fn.results = #[.cell c 93, .tmp t]) (tmps : Array Value) (w : World) (b : Nat) (x : EntM) (hp : tmps.getD c undef = .pointer (some ⟨b, 0, none⟩)) (hat : EntAt w b 0 x) :
    (results fn tmps).run Try.prog w = .ok (.tuple #[ev x, tmps.getD t undef]) w := by
  have hl := run_loadVar_mid (P := Try.prog) w b 0 93 (encE x) _ hat.lies.range Try.underlying93 rfl (by rw [info_ent, encE_len])
  unfold results
  rw [h]
  simp only [List.mapM_toArray, List.mapM_cons, List.mapM_nil, hp]
  simp [asAddr, hl]
def zeroE : EntM := ⟨⟨0, 0, 0, 0, 0, []⟩, none, 0⟩
theorem zeroE_cells : (encE zeroE).toArray = #[.int .i64 0, .int .i64 0, .int .u8 0, .int .i64 0, .int .u8 0, .slice none 0 0] := rfl
def orE (o : Option EntM) : EntM := match o with | none => zeroE | some x => x
def hasM (M : List EntM) (id : Int) : Option EntM := M.find? (fun x => decide (x.e.id = id))
def holdM (M : List EntM) (k : List Int) : Option EntM := M.find? (fun x => hasK x.e k)
theorem hasM_e (M : List EntM) (id : Int) : (hasM M id).map (·.e) = hasT (ents M) id := by unfold hasM hasT ents; rw [List.find?_map]; rfl
theorem holdM_e (M : List EntM) (k : List Int) : (holdM M k).map (·.e) = holdT (ents M) k := by unfold holdM holdT ents; rw [List.find?_map]; rfl
theorem find_first {α : Type} {p : α → Bool} {l : List α} {i : Nat} {x : α} (hx : l[i]? = some x) (hp : p x = true) (h : ∀ j y, j < i → l[j]? = some y → p y = false) : l.find? p = some x := by
  induction l generalizing i with
  | nil => simp at hx
  | cons z r ih =>
    cases i with
    | zero => simp at hx; subst hx; rw [List.find?_cons_of_pos hp]
    | succ j =>
      rw [List.find?_cons_of_neg (by rw [h 0 z (by omega) rfl]; simp)]
      exact ih (by simpa using hx) (fun k y hk hy => h (k + 1) y (by omega) (by simpa using hy))
theorem find_no {α : Type} {p : α → Bool} {l : List α} (h : ∀ j y, j < l.length → l[j]? = some y → p y = false) : l.find? p = none := by
  rw [List.find?_eq_none]
  intro x hx
  obtain ⟨j, hj, rfl⟩ := List.mem_iff_getElem.1 hx
  rw [h j _ hj (List.getElem?_eq_getElem hj)]
  simp
/-- A key and an empty entry in boxes. -/
theorem keyent_made (w : World) {k : List Int} (hk : Ky k) (T T' : TypeId) : KeyAt ((w.alloc (.cells (kcs k) T)).alloc (.cells (encE zeroE).toArray T')) w.heap.size 0 k ∧ EntMine ((w.alloc (.cells (kcs k) T)).alloc (.cells (encE zeroE).toArray T')) (w.heap.size + 1) zeroE ∧ Below w.heap.size w ((w.alloc (.cells (kcs k) T)).alloc (.cells (encE zeroE).toArray T')) := by
  obtain ⟨u1, h1⟩ : ∃ u, u = w.alloc (.cells (kcs k) T) := ⟨_, rfl⟩
  have e1 : u1.heap.size = w.heap.size + 1 := by rw [h1]; simp
  have k1 : KeyAt u1 w.heap.size 0 k := by rw [h1]; exact KeyAt.made w T k hk
  have b1 : Below w.heap.size w u1 := by rw [h1]; exact (Below.refl _ _).alloc (Nat.le_refl _) _
  rw [← h1]
  have b2 : Below u1.heap.size u1 (u1.alloc (.cells (encE zeroE).toArray T')) := (Below.refl _ _).alloc (Nat.le_refl _) _
  refine ⟨k1.past b2, ?_, b1.trans (b2.mono b1.size)⟩
  have := EntMine.made u1 T' zeroE
  rw [e1] at this
  exact this
theorem hask_no {e : Ent} {k : List Int} (h : ∀ z W, z < e.l.length → e.l[z]? = some W → W.k ≠ k) : hasK e k = false := by
  unfold hasK
  refine List.any_eq_false.2 (fun W hW => ?_)
  obtain ⟨z, hz, rfl⟩ := List.mem_iff_getElem.1 hW
  simpa using h z _ hz (List.getElem?_eq_getElem hz)
theorem hask_yes {e : Ent} {k : List Int} {z : Nat} {W : Wrt} (hW : e.l[z]? = some W) (hk : W.k = k) : hasK e k = true := List.any_eq_true.2 ⟨W, List.mem_of_getElem? hW, decide_eq_true hk⟩
end Go.Proofs.Ytmiafadmcpmjgaa

namespace Go.Proofs.Ytmiafadmcpmjgaa
open Go.RowKit
set_option linter.unusedVariables false

/-- Whom a reader waits for, in memory's words. -/
theorem blocks_code (M : List EntM) (k : List Int) (t n : Int) : blocksT (ents M) k t n = if (holdM M k).isSome = true then (if 0 < cmpS (orE (holdM M k)).e.t (orE (holdM M k)).e.n t n then none else some (orE (holdM M k)).e.id) else none := by
  unfold blocksT
  rw [← holdM_e]
  cases holdM M k <;> rfl
theorem info_st : (Try.prog.info? 24).map (·.size) = some 2 := by kernel_rfl
/-- A stamp in memory of the call's own. -/
structure StMine (w : World) (b : Nat) (t n : Int) : Prop where
  c0 : w.cell? ⟨b, 0, none⟩ = some (.int .i64 t)
  c1 : w.cell? ⟨b, 1, none⟩ = some (.int .u8 n)
  free : ∀ i, i < 2 → w.frozen? ⟨b, 0 + i, none⟩ = false
theorem StMine.made (w : World) (T : TypeId) (t n : Int) : StMine (w.alloc (.cells #[.int .i64 t, .int .u8 n] T)) w.heap.size t n :=
  ⟨by rw [World.cell?_alloc_new]; rfl, by rw [World.cell?_alloc_new]; rfl, fun i hi => World.frozen?_alloc_new _ _ _ _⟩
theorem StMine.past {w w' : World} {b : Nat} {t n : Int} (h : StMine w b t n) (hb : Below w.heap.size w w') : StMine w' b t n :=
  have hl := cell_lt h.c0
  ⟨(hb.cell (p := ⟨b, 0, none⟩) hl).trans h.c0, (hb.cell (p := ⟨b, 1, none⟩) hl).trans h.c1, fun i hi => (hb.frozen (p := ⟨b, 0 + i, none⟩) hl).trans (h.free i hi)⟩
theorem StMine.there {w : World} {b : Nat} {t n : Int} (h : StMine w b t n) : w.there b 0 2 := fun j hj => by
  refine ⟨?_, h.free j hj⟩
  have : j = 0 ∨ j = 1 := by omega
  rcases this with rfl | rfl
  · rw [Nat.zero_add, h.c0]; rfl
  · rw [Nat.zero_add, h.c1]; rfl
theorem StMine.store {w : World} {b : Nat} {t n t' n' : Int} (h : StMine w b t n) : StMine (w.setCells b 0 [.int .i64 t', .int .u8 n']) b t' n' := by
  have hr := World.rangeAt_setCells_same w b 0 [.int .i64 t', .int .u8 n'] h.there
  exact ⟨hr 0 _ rfl, hr 1 _ rfl, fun i hi => by rw [World.frozen?_setCells]; exact h.free i hi⟩
theorem wpList_store_st (d : Operand) {ops : Array Oper} {rest : List Oper} {op : Oper} {a : Act} {w : World} {Q : Exit → Act → World → Prop} (hgd : op.guard = none) (y : Operand) (ho : op.op = .store 24 d y)
    (b : Nat) (t n t' n' : Int) (hx : a.eval d = .pointer (some ⟨b, 0, none⟩)) (hy : a.eval y = .agg #[.int .i64 t', .int .u8 n']) (hat : StMine w b t n)
    (h : ∀ u, u = w.setCells b 0 [.int .i64 t', .int .u8 n'] → wpList Try.prog ops Q rest (a.put op.dst undef) u) : wpList Try.prog ops Q (op :: rest) a w := by
  refine wpList_store_mid hgd 24 d y ho b 0 #[.int .i64 t', .int .u8 n'] hx hy hat.there (by rw [info_st]; rfl) (all_oneCell_toArray (fun u hu => by simp at hu; rcases hu with rfl | rfl <;> rfl)) ?_
  exact h _ rfl
theorem results_st {fn : Func} {c tt : Tmp} (h : fn.results = #[.cell c 24, .tmp tt]) (tmps : Array Value) (w : World) (b : Nat) (t n : Int) (hp : tmps.getD c undef = .pointer (some ⟨b, 0, none⟩)) (hat : StMine w b t n) :
    (results fn tmps).run Try.prog w = .ok (.tuple #[.agg #[.int .i64 t, .int .u8 n], tmps.getD tt undef]) w := by
  have hl := run_loadVar_mid (P := Try.prog) w b 0 24 [.int .i64 t, .int .u8 n] _ (fun j v hv => by
    have : j = 0 ∨ j = 1 := by
      have := (List.getElem?_eq_some_iff.1 hv).1
      simp at this; omega
    rcases this with rfl | rfl
    · injection hv with hv; rw [← hv]; exact hat.c0
    · injection hv with hv; rw [← hv]; exact hat.c1) Try.underlying24 rfl (by rw [info_st]; rfl)
  unfold results
  rw [h]
  simp only [List.mapM_toArray, List.mapM_cons, List.mapM_nil, hp]
  simp [asAddr, hl]
def lsT (o : Option (Int × Int)) : Int := match o with | none => 0 | some p => p.1
def lsN (o : Option (Int × Int)) : Int := match o with | none => 0 | some p => p.2
/-- What Least's rounds hold. -/
structure LsB (w u : World) (t n : Int) : Prop where
  r : StMine u w.heap.size 0 0
  b : StMine u (w.heap.size + 1) t n
  below : Below w.heap.size w u
theorem LsB.made (w : World) (T : TypeId) : LsB w ((w.alloc (.cells #[.int .i64 0, .int .u8 0] T)).alloc (.cells #[.int .i64 0, .int .u8 0] T)) 0 0 := by
  obtain ⟨u1, h1⟩ : ∃ u, u = w.alloc (.cells #[.int .i64 0, .int .u8 0] T) := ⟨_, rfl⟩
  have e1 : u1.heap.size = w.heap.size + 1 := by rw [h1]; simp
  have r1 : StMine u1 w.heap.size 0 0 := by rw [h1]; exact StMine.made w T 0 0
  have b1 : Below w.heap.size w u1 := by rw [h1]; exact (Below.refl _ _).alloc (Nat.le_refl _) _
  rw [← h1]
  have b2 : Below u1.heap.size u1 (u1.alloc (.cells #[.int .i64 0, .int .u8 0] T)) := (Below.refl _ _).alloc (Nat.le_refl _) _
  have m2 := StMine.made u1 T 0 0
  rw [e1] at m2
  exact ⟨r1.past b2, m2, b1.trans (b2.mono b1.size)⟩
theorem LsB.past {w u u' : World} {t n : Int} (h : LsB w u t n) (hb : Below u.heap.size u u') : LsB w u' t n := ⟨h.r.past hb, h.b.past hb, h.below.trans (hb.mono h.below.size)⟩
theorem cells_else {w : World} {b c : Nat} (hne : c ≠ b) : ∀ (vs : List Value) (o : Nat) (w : World), (w.setCells b o vs).heap[c]? = w.heap[c]?
  | [], o, w => rfl
  | v :: r, o, w => by
    show ((w.setCell ⟨b, o, none⟩ v).setCells b (o + 1) r).heap[c]? = _
    rw [cells_else (w := w) hne r (o + 1) (w.setCell ⟨b, o, none⟩ v)]
    exact Below.heap_setCell _ ⟨b, o, none⟩ _ c hne
theorem StMine.else_ {w : World} {b c : Nat} {t n : Int} (h : StMine w c t n) (hne : c ≠ b) (vs : List Value) : StMine (w.setCells b 0 vs) c t n :=
  have hk := cells_else (w := w) hne vs 0 w
  ⟨(cell_kept hk 0).trans h.c0, (cell_kept hk 1).trans h.c1, fun i hi => by rw [World.frozen?_setCells]; exact h.free i hi⟩
theorem LsB.store {w u : World} {t n t' n' : Int} (h : LsB w u t n) : LsB w (u.setCells (w.heap.size + 1) 0 [.int .i64 t', .int .u8 n']) t' n' :=
  ⟨h.r.else_ (by omega) _, h.b.store, below_cells (by omega) h.below⟩
theorem least_next {M : List EntM} {i : Nat} {x : EntM} (h : M[i]? = some x) : leastT (ents (M.take (i + 1))) = leastStep (leastT (ents (M.take i))) x.e := by
  unfold leastT ents
  rw [List.take_add_one, h, List.map_append, List.foldl_append]
  rfl
end Go.Proofs.Ytmiafadmcpmjgaa

namespace Go.Proofs.Ytmiafadmcpmjgaa
open Go.RowKit
set_option linter.unusedVariables false

/-- The list of a table in q lies where it lay, or in a block that is new. -/
def RowedT (w w' : World) (q : Nat) : Prop := ∀ v, w'.cell? ⟨q, 0, none⟩ = some v → ∀ g, v.ownBlock = some g → w.heap.size ≤ g ∨ ∃ v0, w.cell? ⟨q, 0, none⟩ = some v0 ∧ v0.ownBlock = some g
theorem row_keptT {u u' : World} {B e size : Nat} {v : Value} {n : Nat} {xs : List Value} (h : u.ownsRow B e size v n xs) (hk : ∀ k, v.ownBlock = some k → u'.heap[k]? = u.heap[k]?) : u'.ownsRow B e size v n xs := by
  refine ⟨h.1, ?_⟩
  rcases h.2 with e | ⟨g, cap, cur, e1, e2, hh, r⟩
  · exact .inl e
  · exact .inr ⟨g, cap, cur, e1, e2, (hk g (by rw [e1]; rfl)).trans hh, r⟩
theorem own_downT {u : World} {B B' : Nat} {e : TypeId} {size : Nat} {v : Value} {n : Nat} {xs : List Value} (h : u.ownsRow B e size v n xs) (hB : B' ≤ B) : u.ownsRow B' e size v n xs :=
  ⟨h.1, h.2.imp (fun h => h) (fun ⟨g, cap, cur, h1, h2, h3⟩ => ⟨g, cap, cur, h1, Nat.le_trans hB h2, h3⟩)⟩
/-- A list that is all new is laid into the table; behind it the call's own blocks from w on may turn, but not the list's. -/
theorem TabR.lay {w u u' : World} {B q : Nat} {M M' : List EntM} (h : TabR w B q M) (hB : B ≤ w.heap.size) (hb : Below w.heap.size w u) {a : Option Addr} {N c b : Nat} (hN : M'.length = N) (hrow : u.ownsRow b 93 6 (.slice a N c) N (M'.flatMap encE)) (hbw : w.heap.size < b) (hsub : ∀ x ∈ M', x ∈ M) (hfew : M'.length ≤ 1000)
    (hs : u.heap.size ≤ u'.heap.size) (hq : u'.cell? ⟨q, 0, none⟩ = some (.slice a N c)) (hfz : u'.frozen? ⟨q, 0, none⟩ = false) (hk : ∀ k, k ≠ q → k ≠ w.heap.size → u'.heap[k]? = u.heap[k]?) (ho : u'.os = u.os ∧ u'.tape = u.tape ∧ u'.output = u.output) :
    TabR u' B q M' ∧ Chg w u' (fun k => k = q) ∧ RowedT w u' q := by
  subst hN
  have hlt := h.lt
  refine ⟨⟨Nat.lt_of_lt_of_le (Nat.lt_of_lt_of_le hlt hb.size) hs, h.lo, ⟨a, c, hq, row_keptT (own_downT hrow (by omega)) (fun k e => hk k (by have := (hrow.lt k e).1; omega) (by have := (hrow.lt k e).1; omega)), fun k e => by have := (hrow.lt k e).1; omega⟩, hfz, fun x hx => ?_, fun x hx => h.far x (hsub x hx), hfew⟩, ⟨ho.1.trans hb.os, ho.2.1.trans hb.tape, ho.2.2.trans hb.output, Nat.le_trans hb.size hs, fun k hkw hn => (hk k hn (by omega)).trans (hb.block k hkw)⟩, fun v hv g hg => .inl ?_⟩
  · refine (h.wrs x (hsub x hx)).kept (fun hl b o e => ?_)
    have h1 := (h.wrs x (hsub x hx)).wr.blt hl e
    rw [hk b (h.far x (hsub x hx) hl b o e) (by omega)]
    exact hb.block b h1
  · rw [hq] at hv
    injection hv with hv
    rw [← hv] at hg
    have := (hrow.lt g hg).1
    omega
theorem EntAt.kept {u u' : World} {b o : Nat} {x : EntM} (h : EntAt u b o x) (hk : u'.heap[b]? = u.heap[b]?) : EntAt u' b o x := ⟨lies_of fun j v hv => by rw [cell_kept hk]; exact h.lies.at j v hv⟩
theorem EntMine.kept {u u' : World} {b : Nat} {x : EntM} (h : EntMine u b x) (hk : u'.heap[b]? = u.heap[b]?) : EntMine u' b x := ⟨h.at_.kept hk, fun i hi => by rw [frozen_kept hk]; exact h.free i hi⟩
def dropM (M : List EntM) (id : Int) : List EntM := M.filter (fun x => decide (x.e.id ≠ id))
theorem dropM_e (M : List EntM) (id : Int) : ents (dropM M id) = dropT (ents M) id := by unfold dropM dropT ents; rw [List.filter_map]; rfl
theorem drop_next {M : List EntM} {id : Int} {i : Nat} {x : EntM} (h : M[i]? = some x) : dropM (M.take (i + 1)) id = dropM (M.take i) id ++ if x.e.id = id then [] else [x] := by
  unfold dropM
  rw [List.take_add_one, h, List.filter_append]
  congr 1
  by_cases e : x.e.id = id <;> simp [e]
end Go.Proofs.Ytmiafadmcpmjgaa

namespace Go.Proofs.Ytmiafadmcpmjgaa
open Go.RowKit
set_option linter.unusedVariables false

def dropE (a : Option Addr) (cap k : Nat) : Option Addr := match a with | none => none | some ad => if cap = k then some ad else some (ad.add (k * 6))
theorem dropE_none {a : Option Addr} {cap k : Nat} (h : dropE a cap k = none) : a = none := by
  cases a with
  | none => rfl
  | some ad => simp only [dropE] at h; split at h <;> cases h
theorem lies_dropE {u : World} {a : Option Addr} {cap k : Nat} {xs : List EntM} (ha : ∀ ad, a = some ad → ∃ bb, ad = ⟨bb, 0, none⟩) (h : Lies u a (xs.flatMap encE)) (hl : xs.length ≤ cap) : Lies u (dropE a cap k) ((xs.drop k).flatMap encE) := by
  by_cases hc : cap = k
  · have : xs.drop k = [] := List.drop_eq_nil_of_le (by omega)
    rw [this]; exact lies_nil _ _
  · cases a with
    | none => exact lies_none _ _
    | some ad =>
      obtain ⟨bb, rfl⟩ := ha ad rfl
      have := h.dropped (k * 6)
      rw [flat_drop xs k (fun x _ => encE_len x)] at this
      show Lies u (if cap = k then some ⟨bb, 0, none⟩ else some ((⟨bb, 0, none⟩ : Addr).add (k * 6))) _
      rw [if_neg hc, addr_add]
      exact this
theorem lies_takeE {u : World} {a : Option Addr} {k : Nat} {xs : List EntM} (ha : ∀ ad, a = some ad → ∃ bb, ad = ⟨bb, 0, none⟩) (h : Lies u a (xs.flatMap encE)) : Lies u a ((xs.take k).flatMap encE) := by
  cases a with
  | none => exact lies_none _ _
  | some ad =>
    obtain ⟨bb, rfl⟩ := ha ad rfl
    have := h.taken (k * 6)
    rw [flat_take xs k (fun x _ => encE_len x)] at this
    exact this
/-- A table's list: its address, its cells. -/
theorem TabR.src {u : World} {B q : Nat} {M : List EntM} (h : TabR u B q M) : ∃ a c, M.length ≤ c ∧ (a = none → c = 0 ∧ M.length = 0) ∧ (∀ ad, a = some ad → ∃ bb, ad = ⟨bb, 0, none⟩) ∧ (∀ v, Below u.heap.size u v → v.cell? ⟨q, 0, none⟩ = some (.slice a M.length c)) ∧ (∀ v, Below u.heap.size u v → Lies v a (M.flatMap encE)) ∧ ∀ i x, M[i]? = some x → ∃ g, a = some ⟨g, 0, none⟩ ∧ Hid (∀ v, Below u.heap.size u v → EntAt v g (i * 6) x) := by
  obtain ⟨a, c, h1, h2, h3⟩ := h.list
  rcases h2.2 with ⟨e1, e2⟩ | ⟨g, cap, cur, e1, hg, hh, e5, _⟩
  · have e3 := List.eq_nil_of_length_eq_zero e2
    injection e1 with x1 x2 x3
    refine ⟨a, c, by omega, fun _ => ⟨x3, e2⟩, (fun ad e => by rw [x1] at e; cases e), fun v hb => (hb.cell (p := ⟨q, 0, none⟩) h.lt).trans h1, fun v hb => ?_, (fun i x hx => by rw [e3] at hx; simp at hx)⟩
    rw [e3]; exact lies_nil _ _
  · injection e1 with x1 x2 x3
    subst x1
    subst x3
    refine ⟨_, c, e5, (fun e => by cases e), fun ad e => ⟨g, (Option.some.inj e).symm⟩, fun v hb => (hb.cell (p := ⟨q, 0, none⟩) h.lt).trans h1, fun v hb => (own_lies h2).past hb, fun i x hx => ⟨g, rfl, fun v hb => ⟨?_⟩⟩⟩
    have := ((own_lies h2).el (size := 6) (fun y _ => encE_len y) hx).past hb
    rwa [Nat.zero_add] at this
theorem wrtEl : ElT 25 36 18 40 := ElT.mk' (z := wv zeroW) Try.underlying25 (by kernel_rfl) (by kernel_rfl) (by decide) (by decide)
theorem lies_flat {α : Type} {enc : α → List Value} {size : Nat} {w : World} {b : Nat} : ∀ (l : List α) (o : Nat), (∀ x ∈ l, (enc x).length = size) → (∀ i x, l[i]? = some x → Lies w (some ⟨b, o + i * size, none⟩) (enc x)) → Lies w (some ⟨b, o, none⟩) (l.flatMap enc)
  | [], o, _, _ => lies_empty _ _ _
  | x :: r, o, hl, h => by
    have hx : (enc x).length = size := hl x (by simp)
    have h0 := h 0 x rfl
    rw [Nat.zero_mul, Nat.add_zero] at h0
    have hr := lies_flat r (o + size) (fun y hy => hl y (by simp [hy])) (fun i y hy => by
      have := h (i + 1) y (by simpa using hy)
      rwa [Nat.succ_mul, Nat.add_comm (i * size), ← Nat.add_assoc] at this)
    refine lies_of fun j u hj => ?_
    rw [List.flatMap_cons] at hj
    by_cases hjs : j < size
    · rw [List.getElem?_append_left (by omega)] at hj
      exact h0.at j u hj
    · rw [List.getElem?_append_right (by omega), hx] at hj
      have := hr.at (j - size) u hj
      rwa [show o + size + (j - size) = o + j by omega] at this
theorem WrtsAt.lies {w : World} {a : Option Addr} {l : List Wrt} (h : WrtsAt w a l) : Lies w a (l.flatMap encW) := by
  rcases h.cells with rfl | ⟨b, o, rfl, hc⟩
  · exact lies_nil _ _
  · exact lies_flat l o (fun W hW => encW_len (h.oks W hW).key) (fun i W hW => (hc i W hW).lies)
theorem encWs_one (l : List Wrt) : ∀ u ∈ l.flatMap encW, u.oneCell' = true := flat_one (fun W _ => encW_one W)
theorem own_wrts {w : World} {B n : Nat} {a : Option Addr} {c : Nat} {l : List Wrt} (h : w.ownsRow B 36 18 (.slice a n c) n (l.flatMap encW)) (hl : l.length = n) (hk : ∀ W ∈ l, WrtOk W) : n ≤ c ∧ WrtsAt w a l ∧ (l ≠ [] → ∀ b o, a = some ⟨b, o, none⟩ → B ≤ b) := by
  rcases h.2 with ⟨e1, h0⟩ | ⟨g, cap, cur, e1, hg, hh, h1, _⟩
  · have e := List.eq_nil_of_length_eq_zero (hl.trans h0)
    exact ⟨by omega, ⟨.inl e, hk⟩, fun hne => absurd e hne⟩
  · injection e1 with x1 x2 x3
    subst x1
    subst x3
    refine ⟨h1, ⟨.inr ⟨g, 0, rfl, fun i W hW => ⟨?_⟩⟩, hk⟩, fun _ b o e => by cases e; exact hg⟩
    exact (own_lies h).el (fun y hy => encW_len (hk y hy).key) hW
end Go.Proofs.Ytmiafadmcpmjgaa

