/-
  What is seen of a key behind a put: at times ahead of it nothing has turned; just at it, it is seen. No program is named here.
  Stretches of keys at a time, and what a trim leaves of them. No program is named here.
  Lists of bytes that lie somewhere, and lists of the call's own: what later layers' walks lean on. No function of the program is named here.
-/
import Derived.Test.YtileidbdmpeciaaGreatStoreFacts
import Derived.Test.YtileidbdmpeciaaGreatProg
import Derived.WalkKit
import Derived.WalkSpells
import Derived.WalkLawsBesides
import Derived.Laws.CopyOwn
import Derived.Laws.MakeOwn
import Derived.Laws.BytesArg
import Derived.OpenShut
import Derived.Laws.AppendOwnNone
namespace Go.Proofs.YtileidbdmpeciaaGreat
open Go.RowKit
set_option linter.unusedVariables false

theorem ltS_irr (t n : Int) : ¬ ltS t n t n := by unfold ltS; omega
/-- A put that answers 0 put it in. -/
theorem put_ok {L : List Ver} {V : Ver} (h : One L) (hV : V.k = zeroK) (h0 : (putV L V).1 = 0) : (putV L V).2 = L.take (rk L V) ++ V :: L.drop (rk L V) ∧ mayV V = true ∧ clashV L V = false ∧ L.length < 50 := by
  rw [put_one h hV] at h0 ⊢
  by_cases h1 : mayV V = false
  · rw [if_pos h1] at h0; cases h0
  · rw [if_neg h1] at h0 ⊢
    by_cases h2 : clashV L V = true
    · rw [if_pos h2] at h0; cases h0
    · rw [if_neg h2] at h0 ⊢
      by_cases h3 : 50 ≤ L.length
      · rw [if_pos h3] at h0; cases h0
      · rw [if_neg h3]
        exact ⟨rfl, by simpa using h1, by simpa using h2, by omega⟩
theorem one_ins {L : List Ver} {V : Ver} (h : One L) (hV : V.k = zeroK) (r : Nat) : One (L.take r ++ V :: L.drop r) := fun X hX => by
  rcases (mem_ins r).1 hX with rfl | hX
  · exact hV
  · exact h X hX
theorem ups_put {L : List Ver} {V : Ver} (h : One L) (hu : Ups L) (hV : V.k = zeroK) (h0 : (putV L V).1 = 0) : Ups (putV L V).2 := by
  obtain ⟨e, _, hc, _⟩ := put_ok h hV h0
  rw [e]
  refine ups_ins hu (fun hx => ?_)
  rw [(clash_iff h hu hV).2 hx] at hc
  cases hc
/-- Just at a put it is seen. -/
theorem at_here {L : List Ver} {V : Ver} (h : One L) (hu : Ups L) (hV : V.k = zeroK) (h0 : (putV L V).1 = 0) : atV (putV L V).2 zeroK V.t V.n = some V := by
  have hu2 := ups_put h hu hV h0
  obtain ⟨e, _⟩ := put_ok h hV h0
  rw [e] at hu2 ⊢
  refine at_is (one_ins h hV _) hu2 ((mem_ins _).2 (.inl rfl)) (ltS_irr _ _) (fun Y hY hn => ?_)
  by_cases hs : Y.t = V.t ∧ Y.n = V.n
  · exact .inl (ups_same hu2 hY ((mem_ins _).2 (.inl rfl)) hs)
  · right
    show ltS Y.t Y.n V.t V.n
    unfold ltS at *
    omega
/-- What is seen of a key has that key. -/
theorem at_key {L : List Ver} {k : List Int} {t n : Int} {X : Ver} (hx : atV L k t n = some X) : X.k = k := by
  unfold atV at hx
  have hm := List.mem_reverse.1 (List.mem_of_find?_eq_some hx)
  unfold chainV at hm
  obtain ⟨j, hj, e⟩ := List.getElem_of_mem hm
  rw [List.length_take] at hj
  have e2 : (L.drop (kFrom L k))[j]? = some X := by
    rw [List.getElem_take] at e
    rw [List.getElem?_eq_getElem (by omega), e]
  exact of_decide_eq_true (tw_in (p := fun V : Ver => decide (V.k = k)) (show j < kMany L k by omega) e2)
theorem bare_inj {A B : Ver} (hk : A.k = B.k) (h : bare A = bare B) : A = B := by
  obtain ⟨a, b, c, d, e⟩ := A
  obtain ⟨a', b', c', d', e'⟩ := B
  injection h with _ h1 h2 h3 h4
  simp at hk
  subst hk; subst h1; subst h2; subst h3; subst h4
  rfl
/-- Two stores that have the same of a key tell the same of it. -/
theorem at_same {L M : List Ver} {k : List Int} {t n t' n' : Int} (h : atV (oneV L k) zeroK t n = atV (oneV M k) zeroK t' n') : atV L k t n = atV M k t' n' := by
  rw [at_own, at_own] at h
  cases hA : atV L k t n with
  | none =>
    cases hB : atV M k t' n' with
    | none => rfl
    | some B => rw [hA, hB] at h; cases h
  | some A =>
    cases hB : atV M k t' n' with
    | none => rw [hA, hB] at h; cases h
    | some B =>
      rw [hA, hB] at h
      injection h with h
      rw [bare_inj ((at_key hA).trans (at_key hB).symm) h]
/-- Just at a put it is seen, and of other keys what was. -/
theorem at_put {L : List Ver} (h : OrdK L) {V : Ver} (h0 : (putV L V).1 = 0) : atV (putV L V).2 V.k V.t V.n = some V := by
  have h1 := at_here (L := oneV L V.k) (V := bare V) (one_bare _) (ups_chain h _) rfl (by rw [← put_code]; exact h0)
  rw [← put_own h, at_own] at h1
  cases hA : atV (putV L V).2 V.k V.t V.n with
  | none =>
    have h2 : (atV (putV L V).2 V.k V.t V.n).map bare = some (bare V) := h1
    rw [hA] at h2
    cases h2
  | some A =>
    have h2 : (atV (putV L V).2 V.k V.t V.n).map bare = some (bare V) := h1
    rw [hA] at h2
    injection h2 with h2
    rw [bare_inj (at_key hA) h2]
theorem at_else {L : List Ver} (h : OrdK L) (V : Ver) {k : List Int} (hk : k ≠ V.k) (t n : Int) : atV (putV L V).2 k t n = atV L k t n := at_same (by rw [put_other h V k hk])
theorem put_grows {L : List Ver} {V : Ver} (h0 : (putV L V).1 = 0) : (putV L V).2.length = L.length + 1 := by
  have hl := (putAt_le L V).2
  unfold putV at h0 ⊢
  by_cases h1 : mayV V = false
  · rw [if_pos h1] at h0; cases h0
  · rw [if_neg h1] at h0 ⊢
    by_cases h2 : clashV L V = true
    · rw [if_pos h2] at h0; cases h0
    · rw [if_neg h2] at h0 ⊢
      by_cases h3 : 50 ≤ kMany L V.k
      · rw [if_pos h3] at h0; cases h0
      · rw [if_neg h3]
        simp only [List.length_append, List.length_take, List.length_cons, List.length_drop]
        omega
/-- A write: its key, its value, whether it is gone. -/
structure Wrt where
  k : List Int
  v : List Int
  g : Bool
def verW (t n : Int) (W : Wrt) : Ver := ⟨W.k, t, n, W.v, W.g⟩
/-- Writes put one behind the other at one stamp: 5 at once where one is there, else 0; the list so far; was one refused? -/
def runW (t n : Int) : List Wrt → List Ver → Bool → Int × List Ver × Bool
  | [], L, f => (0, L, f)
  | W :: r, L, f => if (putV L (verW t n W)).1 = 5 then (5, L, f) else runW t n r (putV L (verW t n W)).2 (f || decide ((putV L (verW t n W)).1 ≠ 0))
theorem run_step (t n : Int) (W : Wrt) (r : List Wrt) (L : List Ver) (f : Bool) : runW t n (W :: r) L f = if (putV L (verW t n W)).1 = 5 then (5, L, f) else runW t n r (putV L (verW t n W)).2 (f || decide ((putV L (verW t n W)).1 ≠ 0)) := rfl
theorem run_full {t n : Int} : ∀ (l : List Wrt) (L : List Ver), (runW t n l L true).2.2 = true
  | [], L => rfl
  | W :: r, L => by
    unfold runW
    by_cases h : (putV L (verW t n W)).1 = 5
    · rw [if_pos h]
    · rw [if_neg h]
      exact run_full r _
/-- Where all went well, each went well. -/
theorem run_cons {t n : Int} {W : Wrt} {r : List Wrt} {L : List Ver} (h1 : (runW t n (W :: r) L false).1 ≠ 5) (h2 : (runW t n (W :: r) L false).2.2 = false) : (putV L (verW t n W)).1 = 0 ∧ runW t n (W :: r) L false = runW t n r (putV L (verW t n W)).2 false := by
  rw [run_step] at h1 h2 ⊢
  by_cases h : (putV L (verW t n W)).1 = 5
  · rw [if_pos h] at h1
    exact absurd rfl h1
  · rw [if_neg h] at h1 h2 ⊢
    by_cases h0 : (putV L (verW t n W)).1 = 0
    · refine ⟨h0, ?_⟩
      rw [h0]
      rfl
    · rw [decide_eq_true h0, Bool.or_true, run_full] at h2
      cases h2
theorem run_else {t n : Int} : ∀ (l : List Wrt) (L : List Ver), OrdK L → (runW t n l L false).1 ≠ 5 → (runW t n l L false).2.2 = false → ∀ k, (∀ W ∈ l, W.k ≠ k) → ∀ t' n', atV (runW t n l L false).2.1 k t' n' = atV L k t' n'
  | [], L, _, _, _, k, _, t', n' => rfl
  | W :: r, L, h, h1, h2, k, hk, t', n' => by
    obtain ⟨h0, e⟩ := run_cons h1 h2
    rw [e] at h1 h2 ⊢
    rw [run_else r _ (ord_put h _) h1 h2 k (fun X hX => hk X (List.mem_cons_of_mem _ hX)) t' n']
    exact at_else h (verW t n W) (Ne.symm (hk W (by simp))) t' n'
theorem run_here {t n : Int} : ∀ (l : List Wrt) (L : List Ver), OrdK L → (runW t n l L false).1 ≠ 5 → (runW t n l L false).2.2 = false → l.Pairwise (fun A B => A.k ≠ B.k) → ∀ W ∈ l, atV (runW t n l L false).2.1 W.k t n = some (verW t n W)
  | [], L, _, _, _, _, W, hW => by simp at hW
  | X :: r, L, h, h1, h2, hd, W, hW => by
    obtain ⟨h0, e⟩ := run_cons h1 h2
    rw [e] at h1 h2 ⊢
    obtain ⟨d1, d2⟩ := List.pairwise_cons.1 hd
    rcases List.mem_cons.1 hW with rfl | hW
    · rw [run_else r _ (ord_put h _) h1 h2 W.k (fun Y hY => Ne.symm (d1 Y hY)) t n]
      exact at_put (V := verW t n W) h h0
    · exact run_here r _ (ord_put h _) h1 h2 d2 W hW
end Go.Proofs.YtileidbdmpeciaaGreat

namespace Go.Proofs.YtileidbdmpeciaaGreat
open Go.RowKit
set_option linter.unusedVariables false

/-- What a store holds: in order; each version may be; no key has more than fifty. -/
structure StoK (L : List Ver) : Prop where
  ord : OrdK L
  may : ∀ V ∈ L, mayV V = true
  ins : ∀ V ∈ L, 0 ≤ V.n ∧ V.n ≤ 255 ∧ ∀ z ∈ V.v, 0 ≤ z ∧ z ≤ 255
  few : ∀ k, kMany L k ≤ 50
theorem StoK.nil : StoK [] := ⟨List.Pairwise.nil, fun V h => by simp at h, fun V h => by simp at h, fun k => by have := kMany_le [] k; simp at this; omega⟩
theorem chain_sub {L : List Ver} {k : List Int} {V : Ver} (h : V ∈ chainV L k) : V ∈ L := List.mem_of_mem_drop (List.mem_of_mem_take h)
theorem StoK.chn {L : List Ver} (h : StoK L) (k : List Int) : Chn (oneV L k) := by
  refine ⟨one_bare _, ups_chain h.ord k, fun V hV => ?_, fun V hV => ?_, by rw [one_len]; exact h.few k⟩
  · obtain ⟨X, hX, e⟩ := List.mem_map.1 hV
    rw [← e, bare_may]
    exact h.may X (chain_sub hX)
  · obtain ⟨X, hX, e⟩ := List.mem_map.1 hV
    rw [← e]
    exact h.ins X (chain_sub hX)
theorem mem_put {L : List Ver} {V X : Ver} (hX : X ∈ (putV L V).2) : X ∈ L ∨ (X = V ∧ mayV V = true) := by
  unfold putV at hX
  by_cases h1 : mayV V = false
  · rw [if_pos h1] at hX; exact .inl hX
  · rw [if_neg h1] at hX
    by_cases h2 : clashV L V = true
    · rw [if_pos h2] at hX; exact .inl hX
    · rw [if_neg h2] at hX
      by_cases h3 : 50 ≤ kMany L V.k
      · rw [if_pos h3] at hX; exact .inl hX
      · rw [if_neg h3] at hX
        rcases (mem_ins _).1 hX with e | e
        · exact .inr ⟨e, by simpa using h1⟩
        · exact .inl e
theorem StoK.put {L : List Ver} (h : StoK L) {V : Ver} (hb : 0 ≤ V.n ∧ V.n ≤ 255 ∧ ∀ z ∈ V.v, 0 ≤ z ∧ z ≤ 255) : StoK (putV L V).2 := by
  refine ⟨ord_put h.ord V, fun X hX => ?_, fun X hX => ?_, fun k => ?_⟩
  · rcases mem_put hX with e | ⟨rfl, e⟩
    · exact h.may X e
    · exact e
  · rcases mem_put hX with e | ⟨rfl, _⟩
    · exact h.ins X e
    · exact hb
  · by_cases hk : k = V.k
    · rw [hk, ← one_len, put_own h.ord]
      exact ((h.chn V.k).put (V := bare V) rfl hb).few
    · rw [← one_len, put_other h.ord V k hk, one_len]
      exact h.few k
theorem StoK.rest {L : List Ver} (h : StoK L) (t n : Int) : StoK (restV L t n) := by
  refine ⟨ord_rest h.ord t n, fun V hV => h.may V (List.mem_filter.1 hV).1, fun V hV => h.ins V (List.mem_filter.1 hV).1, fun k => ?_⟩
  rw [← one_len, rest_own h.ord]
  exact ((h.chn k).rest t n).few
theorem get_own (L : List Ver) (k : List Int) (t n : Int) : getV L k t n = getV (oneV L k) zeroK t n := by
  unfold getV
  rw [at_own]
  cases atV L k t n <;> rfl
/-- May writes be (but for their stamp): so many, each may be, no key twice. -/
def mayW (l : List Wrt) (least : Nat) : Bool := decide (least ≤ l.length ∧ l.length ≤ 16) && l.all (fun W => goodK W.k && decide (W.v.length ≤ 200) && (!W.g || decide (W.v = []))) && decide (l.Pairwise fun A B => A.k ≠ B.k)
/-- Apply: its answer, and what is there behind it. -/
def applyV (L : List Ver) (t n : Int) (l : List Wrt) : Int × List Ver :=
  if (decide (okS t) && mayW l 1) = false then (1, L) else
  if (runW t n l L false).1 = 5 then (5, L) else
  if ((runW t n l L false).2.2 || decide (200 < (keysV (runW t n l L false).2.1).length)) = true then (6, L) else (0, (runW t n l L false).2.1)
theorem apply_bad {L : List Ver} {t n : Int} {l : List Wrt} (h : (applyV L t n l).1 ≠ 0) : (applyV L t n l).2 = L := by
  unfold applyV at h ⊢
  by_cases h1 : (decide (okS t) && mayW l 1) = false
  · rw [if_pos h1]
  · rw [if_neg h1] at h ⊢
    by_cases h2 : (runW t n l L false).1 = 5
    · rw [if_pos h2]
    · rw [if_neg h2] at h ⊢
      by_cases h3 : ((runW t n l L false).2.2 || decide (200 < (keysV (runW t n l L false).2.1).length)) = true
      · rw [if_pos h3]
      · rw [if_neg h3] at h
        exact absurd rfl h
theorem apply_ok {L : List Ver} {t n : Int} {l : List Wrt} (h : (applyV L t n l).1 = 0) : (applyV L t n l).2 = (runW t n l L false).2.1 ∧ (runW t n l L false).1 ≠ 5 ∧ (runW t n l L false).2.2 = false ∧ okS t ∧ mayW l 1 = true ∧ (keysV (runW t n l L false).2.1).length ≤ 200 := by
  unfold applyV at h ⊢
  by_cases h1 : (decide (okS t) && mayW l 1) = false
  · rw [if_pos h1] at h; cases h
  · rw [if_neg h1] at h ⊢
    by_cases h2 : (runW t n l L false).1 = 5
    · rw [if_pos h2] at h; cases h
    · rw [if_neg h2] at h ⊢
      by_cases h3 : ((runW t n l L false).2.2 || decide (200 < (keysV (runW t n l L false).2.1).length)) = true
      · rw [if_pos h3] at h; cases h
      · rw [if_neg h3]
        simp only [Bool.not_eq_true, Bool.or_eq_false_iff, decide_eq_false_iff_not] at h3
        simp only [Bool.not_eq_false, Bool.and_eq_true, decide_eq_true_eq] at h1
        exact ⟨rfl, h2, h3.1, h1.1, h1.2, by omega⟩
end Go.Proofs.YtileidbdmpeciaaGreat

namespace Go.Proofs.YtileidbdmpeciaaGreat
open Go.RowKit
set_option linter.unusedVariables false

/-- A slice of bytes that lies somewhere: its bytes, and where they are. -/
structure Row (w : World) (a : Option Addr) (zs : List Int) : Prop where
  bytes : ∀ z ∈ zs, 0 ≤ z ∧ z ≤ 255
  cells : zs = [] ∨ ∃ b off, a = some ⟨b, off, none⟩ ∧ ∀ j, j < zs.length → w.cell? ⟨b, off + j, none⟩ = some (.int .u8 (zs.getD j 0))

/-- The cells of a list of bytes. -/
def bs (zs : List Int) : List Value := zs.map (Value.int .u8)
theorem lt_of_cell {w : World} {x : Addr} {v : Value} (h : w.cell? x = some v) : x.block < w.heap.size := by
  apply Classical.byContradiction
  intro hn
  have : w.heap[x.block]? = none := by simp; omega
  simp [World.cell?, this] at h
theorem add_plain (b off j : Nat) : (⟨b, off, none⟩ : Addr).add j = ⟨b, off + j, none⟩ := by unfold Addr.add; split <;> simp_all
theorem Row.below {w w' : World} {a : Option Addr} {zs : List Int} (h : Row w a zs) {B : Nat} (hb : Below B w w') (hB : w.heap.size ≤ B) : Row w' a zs := by
  refine ⟨h.1, ?_⟩
  rcases h.2 with rfl | ⟨b, off, rfl, hc⟩
  · exact .inl rfl
  · exact .inr ⟨b, off, rfl, fun j hj => by rw [hb.cell (Nat.lt_of_lt_of_le (lt_of_cell (hc j hj)) hB)]; exact hc j hj⟩
theorem Row.nil (w : World) (a : Option Addr) : Row w a [] := ⟨by simp, .inl rfl⟩
end Go.Proofs.YtileidbdmpeciaaGreat

