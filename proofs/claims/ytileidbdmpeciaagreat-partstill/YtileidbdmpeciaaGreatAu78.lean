/-
  Entries loaded, stored and answered whole; what the document's own tables answer: Has, holder, Holder, Blocks (hourglassref10: Table).
  What the document's own tables answer: Holder, Blocks, Least (hourglassref10: Table).
  What the document's own tables answer: Drop (hourglassref10: Table).
  Lists of entries cut in two; one entry as a list; a list of writes copied.
  Lists whose elements have several cells, in memory of their own: what copy, append of zeros and clear leave of them; and what becomes of the cells when one element is put in, or the first ones go. No function of the program is named here.
-/
import Derived.Test.YtileidbdmpeciaaGreatAu87
import Derived.Deep.MidRow
import Derived.Deep.Slices
import Derived.Test.YtileidbdmpeciaaGreatAu79
import Derived.Laws.CopyRow
import Derived.Maps.AppendAt
import Derived.Lib.Overlaps
namespace Go.Proofs.YtileidbdmpeciaaGreat
open Go.RowKit
set_option linter.unusedVariables false

/-- One entry in memory of the call's own. -/
structure EntMine (w : World) (b : Nat) (x : EntM) : Prop where
  at_ : EntAt w b 0 x
  free : ∀ i, i < 6 → w.frozen? ⟨b, 0 + i, none⟩ = false
theorem EntAt.lt {w : World} {b o : Nat} {x : EntM} (h : EntAt w b o x) : b < w.heap.size := cell_lt h.cells.1
theorem EntMine.made (w : World) (T : TypeId) (x : EntM) : EntMine (w.alloc (.cells (encE x).toArray T)) w.heap.size x :=
  ⟨⟨lies_made w (encE x).toArray T⟩, fun i hi => World.frozen?_alloc_new _ _ _ _⟩
theorem EntMine.past {w w' : World} {b : Nat} {x : EntM} (h : EntMine w b x) (hb : Below w.heap.size w w') : EntMine w' b x :=
  ⟨h.at_.past hb, fun i hi => by rw [hb.frozen (p := ⟨b, 0 + i, none⟩) h.at_.lt]; exact h.free i hi⟩
theorem EntMine.there {w : World} {b : Nat} {x : EntM} (h : EntMine w b x) : w.there b 0 6 := fun j hj => by
  obtain ⟨u, hu⟩ : ∃ u, (encE x)[j]? = some u := ⟨_, List.getElem?_eq_getElem (by rw [encE_len]; exact hj)⟩
  exact ⟨by rw [h.at_.lies.at j u hu]; rfl, h.free j hj⟩
theorem EntMine.store {w : World} {b : Nat} {x x' : EntM} (h : EntMine w b x) : EntMine (w.setCells b 0 (encE x')) b x' := by
  have ht := h.there
  rw [← encE_len x'] at ht
  exact ⟨⟨lies_of (World.rangeAt_setCells_same w b 0 (encE x') ht)⟩, fun i hi => by rw [World.frozen?_setCells]; exact h.free i hi⟩
def zeroE : EntM := ⟨⟨0, 0, 0, 0, 0, []⟩, none, 0⟩
theorem zeroE_cells : (encE zeroE).toArray = #[.int .i64 0, .int .i64 0, .int .u8 0, .int .i64 0, .int .u8 0, .slice none 0 0] := rfl
def orE (o : Option EntM) : EntM := match o with | none => zeroE | some x => x
def hasM (M : List EntM) (id : Int) : Option EntM := M.find? (fun x => decide (x.e.id = id))
def holdM (M : List EntM) (k : List Int) : Option EntM := M.find? (fun x => hasK x.e k)
theorem hasM_e (M : List EntM) (id : Int) : (hasM M id).map (·.e) = hasT (ents M) id := by unfold hasM hasT ents; rw [List.find?_map]; rfl
theorem holdM_e (M : List EntM) (k : List Int) : (holdM M k).map (·.e) = holdT (ents M) k := by unfold holdM holdT ents; rw [List.find?_map]; rfl
theorem find_first {α : Type} {p : α → Bool} {l : List α} {i : Nat} {x : α} (hx : l[i]? = some x) (hp : p x = true) (h : ∀ j y, j < i → l[j]? = some y → p y = false) : l.find? p = some x := by
  induction l generalizing i with
  | nil => simp at hx
  | cons z r ih =>
    cases i with
    | zero => simp at hx; subst hx; rw [List.find?_cons_of_pos hp]
    | succ j =>
      rw [List.find?_cons_of_neg (by rw [h 0 z (by omega) rfl]; simp)]
      exact ih (by simpa using hx) (fun k y hk hy => h (k + 1) y (by omega) (by simpa using hy))
theorem find_no {α : Type} {p : α → Bool} {l : List α} (h : ∀ j y, j < l.length → l[j]? = some y → p y = false) : l.find? p = none := by
  rw [List.find?_eq_none]
  intro x hx
  obtain ⟨j, hj, rfl⟩ := List.mem_iff_getElem.1 hx
  rw [h j _ hj (List.getElem?_eq_getElem hj)]
  simp
end Go.Proofs.YtileidbdmpeciaaGreat

namespace Go.Proofs.YtileidbdmpeciaaGreat
open Go.RowKit
set_option linter.unusedVariables false

/-- Whom a reader waits for, in memory's words. -/
theorem blocks_code (M : List EntM) (k : List Int) (t n : Int) : blocksT (ents M) k t n = if (holdM M k).isSome = true then (if 0 < cmpS (orE (holdM M k)).e.t (orE (holdM M k)).e.n t n then none else some (orE (holdM M k)).e.id) else none := by
  unfold blocksT
  rw [← holdM_e]
  cases holdM M k <;> rfl
theorem info_st : (Tryz.prog.info? 28).map (·.size) = some 2 := by kernel_rfl
/-- A stamp in memory of the call's own. -/
structure StMine (w : World) (b : Nat) (t n : Int) : Prop where
  c0 : w.cell? ⟨b, 0, none⟩ = some (.int .i64 t)
  c1 : w.cell? ⟨b, 1, none⟩ = some (.int .u8 n)
  free : ∀ i, i < 2 → w.frozen? ⟨b, 0 + i, none⟩ = false
theorem StMine.made (w : World) (T : TypeId) (t n : Int) : StMine (w.alloc (.cells #[.int .i64 t, .int .u8 n] T)) w.heap.size t n :=
  ⟨by rw [World.cell?_alloc_new]; rfl, by rw [World.cell?_alloc_new]; rfl, fun i hi => World.frozen?_alloc_new _ _ _ _⟩
theorem StMine.past {w w' : World} {b : Nat} {t n : Int} (h : StMine w b t n) (hb : Below w.heap.size w w') : StMine w' b t n :=
  have hl := cell_lt h.c0
  ⟨(hb.cell (p := ⟨b, 0, none⟩) hl).trans h.c0, (hb.cell (p := ⟨b, 1, none⟩) hl).trans h.c1, fun i hi => (hb.frozen (p := ⟨b, 0 + i, none⟩) hl).trans (h.free i hi)⟩
theorem StMine.there {w : World} {b : Nat} {t n : Int} (h : StMine w b t n) : w.there b 0 2 := fun j hj => by
  refine ⟨?_, h.free j hj⟩
  have : j = 0 ∨ j = 1 := by omega
  rcases this with rfl | rfl
  · rw [Nat.zero_add, h.c0]; rfl
  · rw [Nat.zero_add, h.c1]; rfl
theorem StMine.store {w : World} {b : Nat} {t n t' n' : Int} (h : StMine w b t n) : StMine (w.setCells b 0 [.int .i64 t', .int .u8 n']) b t' n' := by
  have hr := World.rangeAt_setCells_same w b 0 [.int .i64 t', .int .u8 n'] h.there
  exact ⟨hr 0 _ rfl, hr 1 _ rfl, fun i hi => by rw [World.frozen?_setCells]; exact h.free i hi⟩
/-- What Least's rounds hold. -/
structure LsB (w u : World) (t n : Int) : Prop where
  r : StMine u w.heap.size 0 0
  b : StMine u (w.heap.size + 1) t n
  below : Below w.heap.size w u
theorem LsB.made (w : World) (T : TypeId) : LsB w ((w.alloc (.cells #[.int .i64 0, .int .u8 0] T)).alloc (.cells #[.int .i64 0, .int .u8 0] T)) 0 0 := by
  obtain ⟨u1, h1⟩ : ∃ u, u = w.alloc (.cells #[.int .i64 0, .int .u8 0] T) := ⟨_, rfl⟩
  have e1 : u1.heap.size = w.heap.size + 1 := by rw [h1]; simp
  have r1 : StMine u1 w.heap.size 0 0 := by rw [h1]; exact StMine.made w T 0 0
  have b1 : Below w.heap.size w u1 := by rw [h1]; exact (Below.refl _ _).alloc (Nat.le_refl _) _
  rw [← h1]
  have b2 : Below u1.heap.size u1 (u1.alloc (.cells #[.int .i64 0, .int .u8 0] T)) := (Below.refl _ _).alloc (Nat.le_refl _) _
  have m2 := StMine.made u1 T 0 0
  rw [e1] at m2
  exact ⟨r1.past b2, m2, b1.trans (b2.mono b1.size)⟩
theorem LsB.past {w u u' : World} {t n : Int} (h : LsB w u t n) (hb : Below u.heap.size u u') : LsB w u' t n := ⟨h.r.past hb, h.b.past hb, h.below.trans (hb.mono h.below.size)⟩
theorem cells_else {w : World} {b c : Nat} (hne : c ≠ b) : ∀ (vs : List Value) (o : Nat) (w : World), (w.setCells b o vs).heap[c]? = w.heap[c]?
  | [], o, w => rfl
  | v :: r, o, w => by
    show ((w.setCell ⟨b, o, none⟩ v).setCells b (o + 1) r).heap[c]? = _
    rw [cells_else (w := w) hne r (o + 1) (w.setCell ⟨b, o, none⟩ v)]
    exact Below.heap_setCell _ ⟨b, o, none⟩ _ c hne
theorem StMine.else_ {w : World} {b c : Nat} {t n : Int} (h : StMine w c t n) (hne : c ≠ b) (vs : List Value) : StMine (w.setCells b 0 vs) c t n :=
  have hk := cells_else (w := w) hne vs 0 w
  ⟨(cell_kept hk 0).trans h.c0, (cell_kept hk 1).trans h.c1, fun i hi => by rw [World.frozen?_setCells]; exact h.free i hi⟩
theorem LsB.store {w u : World} {t n t' n' : Int} (h : LsB w u t n) : LsB w (u.setCells (w.heap.size + 1) 0 [.int .i64 t', .int .u8 n']) t' n' :=
  ⟨h.r.else_ (by omega) _, h.b.store, below_cells (by omega) h.below⟩
end Go.Proofs.YtileidbdmpeciaaGreat

namespace Go.Proofs.YtileidbdmpeciaaGreat
open Go.RowKit
set_option linter.unusedVariables false

/-- The list of a table in q lies where it lay, or in a block that is new. -/
def RowedT (w w' : World) (q : Nat) : Prop := ∀ v, w'.cell? ⟨q, 0, none⟩ = some v → ∀ g, v.ownBlock = some g → w.heap.size ≤ g ∨ ∃ v0, w.cell? ⟨q, 0, none⟩ = some v0 ∧ v0.ownBlock = some g
theorem row_keptT {u u' : World} {B e size : Nat} {v : Value} {n : Nat} {xs : List Value} (h : u.ownsRow B e size v n xs) (hk : ∀ k, v.ownBlock = some k → u'.heap[k]? = u.heap[k]?) : u'.ownsRow B e size v n xs := by
  refine ⟨h.1, ?_⟩
  rcases h.2 with e | ⟨g, cap, cur, e1, e2, hh, r⟩
  · exact .inl e
  · exact .inr ⟨g, cap, cur, e1, e2, (hk g (by rw [e1]; rfl)).trans hh, r⟩
theorem own_downT {u : World} {B B' : Nat} {e : TypeId} {size : Nat} {v : Value} {n : Nat} {xs : List Value} (h : u.ownsRow B e size v n xs) (hB : B' ≤ B) : u.ownsRow B' e size v n xs :=
  ⟨h.1, h.2.imp (fun h => h) (fun ⟨g, cap, cur, h1, h2, h3⟩ => ⟨g, cap, cur, h1, Nat.le_trans hB h2, h3⟩)⟩
/-- A list that is all new is laid into the table; behind it the call's own blocks from w on may turn, but not the list's. -/
theorem TabR.lay {w u u' : World} {B q : Nat} {M M' : List EntM} (h : TabR w B q M) (hB : B ≤ w.heap.size) (hb : Below w.heap.size w u) {a : Option Addr} {N c b : Nat} (hN : M'.length = N) (hrow : u.ownsRow b 58 6 (.slice a N c) N (M'.flatMap encE)) (hbw : w.heap.size < b) (hsub : ∀ x ∈ M', x ∈ M) (hfew : M'.length ≤ 1000)
    (hs : u.heap.size ≤ u'.heap.size) (hq : u'.cell? ⟨q, 0, none⟩ = some (.slice a N c)) (hfz : u'.frozen? ⟨q, 0, none⟩ = false) (hk : ∀ k, k ≠ q → k ≠ w.heap.size → u'.heap[k]? = u.heap[k]?) (ho : u'.os = u.os ∧ u'.tape = u.tape ∧ u'.output = u.output) :
    TabR u' B q M' ∧ Chg w u' (fun k => k = q) ∧ RowedT w u' q := by
  subst hN
  have hlt := h.lt
  refine ⟨⟨Nat.lt_of_lt_of_le (Nat.lt_of_lt_of_le hlt hb.size) hs, h.lo, ⟨a, c, hq, row_keptT (own_downT hrow (by omega)) (fun k e => hk k (by have := (hrow.lt k e).1; omega) (by have := (hrow.lt k e).1; omega)), fun k e => by have := (hrow.lt k e).1; omega⟩, hfz, fun x hx => ?_, fun x hx => h.far x (hsub x hx), hfew⟩, ⟨ho.1.trans hb.os, ho.2.1.trans hb.tape, ho.2.2.trans hb.output, Nat.le_trans hb.size hs, fun k hkw hn => (hk k hn (by omega)).trans (hb.block k hkw)⟩, fun v hv g hg => .inl ?_⟩
  · refine (h.wrs x (hsub x hx)).kept (fun hl b o e => ?_)
    have h1 := (h.wrs x (hsub x hx)).wr.blt hl e
    rw [hk b (h.far x (hsub x hx) hl b o e) (by omega)]
    exact hb.block b h1
  · rw [hq] at hv
    injection hv with hv
    rw [← hv] at hg
    have := (hrow.lt g hg).1
    omega
theorem EntAt.kept {u u' : World} {b o : Nat} {x : EntM} (h : EntAt u b o x) (hk : u'.heap[b]? = u.heap[b]?) : EntAt u' b o x := ⟨lies_of fun j v hv => by rw [cell_kept hk]; exact h.lies.at j v hv⟩
theorem EntMine.kept {u u' : World} {b : Nat} {x : EntM} (h : EntMine u b x) (hk : u'.heap[b]? = u.heap[b]?) : EntMine u' b x := ⟨h.at_.kept hk, fun i hi => by rw [frozen_kept hk]; exact h.free i hi⟩
def dropM (M : List EntM) (id : Int) : List EntM := M.filter (fun x => decide (x.e.id ≠ id))
theorem dropM_e (M : List EntM) (id : Int) : ents (dropM M id) = dropT (ents M) id := by unfold dropM dropT ents; rw [List.filter_map]; rfl
end Go.Proofs.YtileidbdmpeciaaGreat

namespace Go.Proofs.YtileidbdmpeciaaGreat
open Go.RowKit
set_option linter.unusedVariables false

theorem wrtEl : ElT 29 80 18 40 := ElT.mk' (z := wv zeroW) Tryz.underlying29 (by kernel_rfl) (by kernel_rfl) (by decide) (by decide)
theorem lies_flat {α : Type} {enc : α → List Value} {size : Nat} {w : World} {b : Nat} : ∀ (l : List α) (o : Nat), (∀ x ∈ l, (enc x).length = size) → (∀ i x, l[i]? = some x → Lies w (some ⟨b, o + i * size, none⟩) (enc x)) → Lies w (some ⟨b, o, none⟩) (l.flatMap enc)
  | [], o, _, _ => lies_empty _ _ _
  | x :: r, o, hl, h => by
    have hx : (enc x).length = size := hl x (by simp)
    have h0 := h 0 x rfl
    rw [Nat.zero_mul, Nat.add_zero] at h0
    have hr := lies_flat r (o + size) (fun y hy => hl y (by simp [hy])) (fun i y hy => by
      have := h (i + 1) y (by simpa using hy)
      rwa [Nat.succ_mul, Nat.add_comm (i * size), ← Nat.add_assoc] at this)
    refine lies_of fun j u hj => ?_
    rw [List.flatMap_cons] at hj
    by_cases hjs : j < size
    · rw [List.getElem?_append_left (by omega)] at hj
      exact h0.at j u hj
    · rw [List.getElem?_append_right (by omega), hx] at hj
      have := hr.at (j - size) u hj
      rwa [show o + size + (j - size) = o + j by omega] at this
theorem WrtsAt.lies {w : World} {a : Option Addr} {l : List Wrt} (h : WrtsAt w a l) : Lies w a (l.flatMap encW) := by
  rcases h.cells with rfl | ⟨b, o, rfl, hc⟩
  · exact lies_nil _ _
  · exact lies_flat l o (fun W hW => encW_len (h.oks W hW).key) (fun i W hW => (hc i W hW).lies)
theorem encWs_one (l : List Wrt) : ∀ u ∈ l.flatMap encW, u.oneCell' = true := flat_one (fun W _ => encW_one W)
theorem own_wrts {w : World} {B n : Nat} {a : Option Addr} {c : Nat} {l : List Wrt} (h : w.ownsRow B 80 18 (.slice a n c) n (l.flatMap encW)) (hl : l.length = n) (hk : ∀ W ∈ l, WrtOk W) : n ≤ c ∧ WrtsAt w a l ∧ (l ≠ [] → ∀ b o, a = some ⟨b, o, none⟩ → B ≤ b) := by
  rcases h.2 with ⟨e1, h0⟩ | ⟨g, cap, cur, e1, hg, hh, h1, _⟩
  · have e := List.eq_nil_of_length_eq_zero (hl.trans h0)
    exact ⟨by omega, ⟨.inl e, hk⟩, fun hne => absurd e hne⟩
  · injection e1 with x1 x2 x3
    subst x1
    subst x3
    refine ⟨h1, ⟨.inr ⟨g, 0, rfl, fun i W hW => ⟨?_⟩⟩, hk⟩, fun _ b o e => by cases e; exact hg⟩
    exact (own_lies h).el (fun y hy => encW_len (hk y hy).key) hW
end Go.Proofs.YtileidbdmpeciaaGreat

namespace Go.Proofs.YtileidbdmpeciaaGreat
open Go.RowKit
set_option linter.unusedVariables false

/-- copy(d, s) into a list of one's own: the cells of s are there. -/
theorem run_copy_els {t e : TypeId} {size bytes : Nat} (E : ElT t e size bytes) (w : World) (ty : TypeId) (g o dLen dCap : Nat) (a : Addr) (sLen sCap m : Nat) (cur : Array Value) (cs : List Value)
    (hg : w.heap[g]? = some (.cells cur e (0, 0))) (hm : Nat.min sLen dLen = m) (hn : cs.length = m * size) (hsrc : ∀ j v, cs[j]? = some v → w.cell? (a.add j) = some v) (hfit : o + cs.length ≤ cur.size) (h1 : ∀ v ∈ cs, v.oneCell' = true) :
    (Builtin.copy_ #[t, t] ty #[.slice (some ⟨g, o, none⟩) dLen dCap, .slice (some a) sLen sCap]).run Tryz.prog w =
      .ok (goInt m) (w.setRow g (cur.toList.take o ++ cs ++ cur.toList.drop (o + cs.length)).toArray) := by
  obtain ⟨i0, z, hi, hz0, hz1, hz2, hz3⟩ := E.info
  have hl := run_loadCells_list (P := Tryz.prog) w a cs hsrc
  have hst := run_storeCells_at Tryz.prog g o e cs 0 cur w hg (by simpa using hfit) h1
  rw [hn] at hl
  simp [Builtin.copy_, run_underlying E.ht, Builtin.lenOf, Builtin.firstCells, sizeOf, typeInfo, hi, hz1, hm, hl, hst]
/-- append(s, make([]T, m)...) where there is no room: a new list, zeros behind what was there. -/
theorem run_append_zeros {t e tn : TypeId} {size bytes : Nat} (E : ElT t e size bytes) (htn : Tryz.prog.underlying tn = some (.int .i64)) (w : World) (ty : TypeId) (a : Addr) (n c m : Nat) (xs : List Value) (hl : xs.length = n * size) (hxs : ∀ j u, xs[j]? = some u → w.cell? (a.add j) = some u)
    (hm : 0 < m) (hroom : c < n + m) (hfew : n + m ≤ 1000000) :
    ∃ zs rs cap', zs.length = m * size ∧ n + m ≤ cap' ∧ cap' ≤ maxLen ∧ rs.length = (cap' - (n + m)) * size ∧
    (Builtin.append_ #[t, tn] ty #[.slice (some a) n c, .int .i64 m]).run Tryz.prog w = .ok (.slice (some ⟨w.heap.size, 0, none⟩) (n + m) cap') (w.drew.alloc (.cells (xs ++ zs ++ rs).toArray e)) := by
  obtain ⟨i0, z, hi, hz0, hz1, hz2, hz3⟩ := E.info
  have hbig : (n + m) * bytes ≤ 140737488355328 := Nat.le_trans (Nat.mul_le_mul hfew E.small) (by decide)
  have hmb : m * bytes ≤ 1000000 * 1000 := Nat.mul_le_mul (by omega) E.small
  have hw : IntKind.i64.wrap (m : Int) = m := by rw [IntKind.wrap_i64]; omega
  have hneg : ¬ ((m : Int) < 0) := by omega
  have h48i : ¬ (281474976710656 < (m : Int) * (bytes : Int)) := by
    rw [← Int.natCast_mul]
    omega
  have hns : ¬ (m * size = 0) := Nat.mul_ne_zero (by omega) (by have := E.pos; omega)
  have hr : ¬ (n + m ≤ c) := by omega
  have h63 : ¬ (9223372036854775807 < (n : Int) + (m : Int)) := by omega
  have h48 : ¬ (281474976710656 < Builtin.nextslicecap (n + m) c * bytes) := by
    have := growslice_fits (bytes := bytes) hroom hbig
    omega
  have hf := run_firstCells_some (P := Tryz.prog) w.drew size n a n c xs hl hxs
  refine ⟨(Builtin.zeroCells z.cells m).toList, (Builtin.zeroCells z.cells (grownCap w (n + m) c e - (n + m))).toList, grownCap w (n + m) c e, ?_, grownCap_ge w (n + m) c e, grownCap_le_maxLen w (n + m) c e (by unfold maxLen; omega), ?_, ?_⟩
  · rw [Array.length_toList, size_zeroCells, hz3]
  · rw [Array.length_toList, size_zeroCells, hz3]
  · have e1 : (xs ++ (Builtin.zeroCells z.cells m).toList ++ (Builtin.zeroCells z.cells (grownCap w (n + m) c e - (n + m))).toList).toArray = xs.toArray ++ Builtin.zeroCells z.cells m ++ Builtin.zeroCells z.cells (grownCap w (n + m) c e - (n + m)) := by
      apply Array.toList_inj.1
      simp
    rw [e1]
    have hf2 : (Builtin.firstCells size n (.slice (some a) n c)).run Tryz.prog w.drew = .ok xs.toArray w.drew := hf
    simp [Builtin.append_, run_underlying E.ht, run_underlying htn, sizeOf, typeInfo, zeroValue, hi, hz0, hz1, hz2, asInt, asIntOf, hw, hneg, hns, hr, h63, h48, h48i, Question.forced, hf2, newRow, grownCap]
/-- clear(s) of a list of one's own: zeros are there. -/
theorem run_clear_els {t e : TypeId} {size bytes : Nat} (E : ElT t e size bytes) (hz : ∀ i z, Tryz.prog.info? e = some i → i.zero = some z → ∀ u ∈ z.cells, u.oneCell' = true) (w : World) (ty : TypeId) (g o n c : Nat) (cur : Array Value)
    (hg : w.heap[g]? = some (.cells cur e (0, 0))) (hn : 0 < n) (hfit : o + n * size ≤ cur.size) :
    ∃ zs, zs.length = n * size ∧ (Builtin.clear_ #[t] ty #[.slice (some ⟨g, o, none⟩) n c]).run Tryz.prog w = .ok (.tuple #[]) (w.setRow g (cur.toList.take o ++ zs ++ cur.toList.drop (o + zs.length)).toArray) := by
  obtain ⟨i0, z, hi, hz0, hz1, hz2, hz3⟩ := E.info
  have hl : (Builtin.zeroCells z.cells n).toList.length = n * size := by rw [Array.length_toList, size_zeroCells, hz3]
  have h1 : ∀ u ∈ (Builtin.zeroCells z.cells n).toList, u.oneCell' = true := by
    intro u hu
    simp [Builtin.zeroCells] at hu
    obtain ⟨k, hk, rfl⟩ := hu
    have hp : 0 < z.cells.size := by rw [hz3]; exact E.pos
    have hlt := Nat.mod_lt k hp
    refine hz i0 z hi hz0 _ ?_
    rw [getElem!_pos z.cells (k % z.cells.size) hlt]
    exact Array.getElem_mem hlt
  have hst := run_storeCells_at Tryz.prog g o e (Builtin.zeroCells z.cells n).toList 0 cur w hg (by rw [hl]; simpa using hfit) h1
  simp only [Nat.add_zero] at hst
  refine ⟨(Builtin.zeroCells z.cells n).toList, hl, ?_⟩
  obtain ⟨m, rfl⟩ : ∃ m, n = m + 1 := ⟨n - 1, by omega⟩
  simp [Builtin.clear_, run_underlying E.ht, zeroValue, typeInfo, hi, hz0, hst]
section
variable {α : Type}
/-- One put in where there is room: what was behind moves up, then it is laid. -/
theorem ins_room (cur v x : List α) (k n s : Nat) (hx : cur.take n = x) (hn : x.length = n) (hk : k ≤ n) (hv : v.length = s) (hfit : n + s ≤ cur.length) (c1 c2 : List α)
    (h1 : c1 = cur.take (k + s) ++ x.drop k ++ cur.drop (k + s + (x.drop k).length)) (h2 : c2 = c1.take k ++ v ++ c1.drop (k + v.length)) :
    c2.take (n + s) = x.take k ++ v ++ x.drop k ∧ c2.length = cur.length := by
  have hd : (x.drop k).length = n - k := by rw [List.length_drop, hn]
  have e1 : c1.take k = x.take k := by
    rw [h1, List.append_assoc, List.take_append_of_le_length (by rw [List.length_take]; omega), List.take_take, ← hx, List.take_take]
    congr 1
    omega
  have e2 : c1.drop (k + s) = x.drop k ++ cur.drop (k + s + (n - k)) := by
    rw [h1, List.append_assoc, List.drop_append_of_le_length (by rw [List.length_take]; omega), List.drop_take, hd]
    simp
  have hl1 : (x.take k).length = k := by rw [List.length_take]; omega
  rw [h2, hv, e1, e2]
  constructor
  · rw [← List.append_assoc]
    have : (x.take k ++ v ++ x.drop k).length = n + s := by simp only [List.length_append, hl1, hd, hv]; omega
    rw [← this]
    exact List.take_left
  · simp only [List.length_append, hl1, hd, hv, List.length_drop]
    omega
/-- One put in where there is none: it is laid into the new list, then what was behind. -/
theorem ins_grow (x v z r : List α) (k n s : Nat) (hn : x.length = n) (hk : k ≤ n) (hv : v.length = s) (hz : z.length = n + s - k) (c0 c1 c2 : List α)
    (h0 : c0 = x.take k ++ z ++ r) (h1 : c1 = c0.take k ++ v ++ c0.drop (k + v.length)) (h2 : c2 = c1.take (k + s) ++ x.drop k ++ c1.drop (k + s + (x.drop k).length)) :
    c2.take (n + s) = x.take k ++ v ++ x.drop k ∧ c2.length = n + s + r.length ∧ c1.length = n + s + r.length := by
  have hd : (x.drop k).length = n - k := by rw [List.length_drop, hn]
  have hl1 : (x.take k).length = k := by rw [List.length_take]; omega
  have l0 : c0.length = n + s + r.length := by rw [h0]; simp only [List.length_append, hl1, hz]; omega
  have e1 : c0.take k = x.take k := by
    rw [h0, List.append_assoc, List.take_append_of_le_length (by omega), List.take_take, Nat.min_self]
  have l1 : c1.length = n + s + r.length := by
    rw [h1, e1]
    simp only [List.length_append, hl1, hv, List.length_drop, l0]
    omega
  have e2 : c1.take (k + s) = x.take k ++ v := by
    rw [h1, e1]
    have : (x.take k ++ v).length = k + s := by rw [List.length_append, hl1, hv]
    rw [← this]
    exact List.take_left
  refine ⟨?_, ?_, l1⟩
  · rw [h2, e2]
    have : (x.take k ++ v ++ x.drop k).length = n + s := by simp only [List.length_append, hl1, hd, hv]; omega
    rw [← this]
    exact List.take_left
  · rw [h2, e2]
    simp only [List.length_append, hl1, hv, hd, List.length_drop, l1]
    omega
end
end Go.Proofs.YtileidbdmpeciaaGreat

