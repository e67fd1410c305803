/-
  What package store answers: Scan.
  The entries of a table's answer, in every world behind.
  What the landed parts answer: Scan, and who blocks a stretch (package part: anyBlocked).
  What follows from chapter 16: what is prepared can be committed; what was read stays; what is over is over. No program is named here.
-/
import Derived.Test.YtileidbdmpeciaaGreatStoC5
import Derived.Test.YtileidbdmpeciaaGreatAu75
import Derived.Test.YtileidbdmpeciaaGreatAu48
import Derived.Test.YtileidbdmpeciaaGreatAu64
import Derived.Test.YtileidbdmpeciaaGreatAu87
namespace Go.Proofs.YtileidbdmpeciaaGreat
open Go.RowKit
set_option linter.unusedVariables false

/-- The boxes of Scan: two keys, a stamp. -/
structure ScB (w u : World) (a b : List Int) (t n : Int) : Prop where
  below : Below w.heap.size w u
  a : KeyAt u w.heap.size 0 a
  b : KeyAt u (w.heap.size + 1) 0 b
  c0 : u.cell? ⟨w.heap.size + 2, 0, none⟩ = some (.int .i64 t)
  c1 : u.cell? ⟨w.heap.size + 2, 1, none⟩ = some (.int .u8 n)
theorem ScB.made (w : World) {a b : List Int} (ha : Ky a) (hb : Ky b) (t n : Int) (T T' : TypeId) : ScB w (((w.alloc (.cells (kcs a) T)).alloc (.cells (kcs b) T)).alloc (.cells #[.int .i64 t, .int .u8 n] T')) a b t n := by
  obtain ⟨u1, h1⟩ : ∃ u, u = w.alloc (.cells (kcs a) T) := ⟨_, rfl⟩
  have e1 : u1.heap.size = w.heap.size + 1 := by rw [h1]; simp
  have k1 : KeyAt u1 w.heap.size 0 a := by rw [h1]; exact KeyAt.made w T a ha
  have b1 : Below w.heap.size w u1 := by rw [h1]; exact (Below.refl _ _).alloc (Nat.le_refl _) _
  rw [← h1]
  obtain ⟨u2, h2⟩ : ∃ u, u = u1.alloc (.cells (kcs b) T) := ⟨_, rfl⟩
  have e2 : u2.heap.size = w.heap.size + 2 := by rw [h2]; simp; omega
  have k2 : KeyAt u2 (w.heap.size + 1) 0 b := by rw [h2, ← e1]; exact KeyAt.made u1 T b hb
  have b2 : Below u1.heap.size u1 u2 := by rw [h2]; exact (Below.refl _ _).alloc (Nat.le_refl _) _
  rw [← h2]
  have b3 : Below u2.heap.size u2 (u2.alloc (.cells #[.int .i64 t, .int .u8 n] T')) := (Below.refl _ _).alloc (Nat.le_refl _) _
  refine ⟨(b1.trans (b2.mono b1.size)).trans (b3.mono (by omega)), (k1.past b2).past b3, k2.past b3, ?_, ?_⟩ <;> (rw [← e2, World.cell?_alloc_new]; rfl)
theorem ScB.past {w u u' : World} {a b : List Int} {t n : Int} (h : ScB w u a b t n) (hb : Below u.heap.size u u') : ScB w u' a b t n :=
  ⟨h.below.trans (hb.mono h.below.size), h.a.past hb, h.b.past hb, (hb.cell (p := ⟨w.heap.size + 2, 0, none⟩) (cell_lt h.c0)).trans h.c0, (hb.cell (p := ⟨w.heap.size + 2, 1, none⟩) (cell_lt h.c0)).trans h.c1⟩
/-- What Scan's rounds hold: U the world behind the boxes and the keys. -/
structure ScR (w U u : World) (a b : List Int) (t n : Int) (v : Value) (M : List Itm) : Prop where
  box : ScB w U a b t n
  own : OwnB 132 17 U u v M.length (M.flatMap encI)
theorem ScR.past {w U u u' : World} {a b : List Int} {t n : Int} {v : Value} {M : List Itm} (h : ScR w U u a b t n v M) (hb : Below u.heap.size u u') : ScR w U u' a b t n v M := ⟨h.box, h.own.past hb⟩
theorem ScR.here {w U u : World} {a b : List Int} {t n : Int} {v : Value} {M : List Itm} (h : ScR w U u a b t n v M) : ScB w u a b t n := h.box.past (h.own.below.mono (Nat.le_refl _))
end Go.Proofs.YtileidbdmpeciaaGreat

namespace Go.Proofs.YtileidbdmpeciaaGreat
open Go.RowKit
set_option linter.unusedVariables false

/-- An entry of an answer, in every world behind. -/
theorem AllOf.open {u : World} {B : Nat} {a : Option Addr} {N c : Nat} {L : List EntM} {E : List Ent} (h : AllOf u B (.slice a N c) L E) : N = L.length ∧ N ≤ c ∧ ∀ i y, L[i]? = some y → ∃ g, a = some ⟨g, 0, none⟩ ∧ Hid (∀ v, Below u.heap.size u v → EntAt v g (i * 6) y ∧ EntW v y) := by
  have hr := h.row
  have hN : N = L.length ∧ N ≤ c := by
    rcases hr.2 with ⟨e1, e2⟩ | ⟨g, cap, cur, e1, _, _, e5, _⟩
    · injection e1 with x1 x2 x3
      omega
    · injection e1 with x1 x2 x3
      omega
  refine ⟨hN.1, hN.2, fun i y hy => ?_⟩
  rcases hr.2 with ⟨e1, e2⟩ | ⟨g, cap, cur, e1, hg, hh, e5, _⟩
  · rw [List.eq_nil_of_length_eq_zero e2] at hy
    simp at hy
  · injection e1 with x1 x2 x3
    subst x1
    have hr2 := hr
    rw [hN.1] at hr2
    refine ⟨g, rfl, fun v hv => ⟨⟨?_⟩, ((h.own y (List.mem_of_getElem? hy)).past hv).ent⟩⟩
    have hl := ((own_lies hr2).el (size := 6) (fun z _ => encE_len z) hy).past hv
    rwa [Nat.zero_add] at hl
end Go.Proofs.YtileidbdmpeciaaGreat

namespace Go.Proofs.YtileidbdmpeciaaGreat
open Go.RowKit
set_option linter.unusedVariables false
set_option linter.unusedSimpArgs false

end Go.Proofs.YtileidbdmpeciaaGreat

namespace Go.Proofs.YtileidbdmpeciaaGreat
set_option linter.unusedVariables false
set_option linter.unusedSimpArgs false

/-! ### What is prepared can be committed -/
theorem clash_stamp {S : List Ver} (h : OrdK S) {V : Ver} (hc : clashV S V = true) : ∃ X ∈ S, X.k = V.k ∧ X.t = V.t ∧ X.n = V.n := by
  unfold clashV at hc
  cases e : (chainV S V.k)[putR S V]? with
  | none => rw [e] at hc; cases hc
  | some X =>
    rw [e] at hc
    have h1 : X.t = V.t ∧ X.n = V.n := of_decide_eq_true hc
    obtain ⟨h2, h3⟩ := (chain_mem h).1 (List.mem_of_getElem? e)
    exact ⟨X, h2, h3, h1.1, h1.2⟩
theorem PstK.ready {P : PSt} (h : PstK P) {e : Ent} (he : e ∈ P.T) {t n : Int} (ht : okS t) (hc : ¬ cmpS t n e.t e.n < 0) : applyV P.S t n e.l = (0, putsW t n e.l P.S) := by
  have ho := h.sto.sto.ord
  have hg := h.tab.good e he
  unfold goodE at hg
  simp only [Bool.and_eq_true, decide_eq_true_eq] at hg
  have h1 : ltS e.s e.m e.t e.n := cmp_pos.1 hg.1.2
  have h2 : ltS e.s e.m t n := by
    have : ¬ ltS t n e.t e.n := fun q => hc (cmp_neg.2 q)
    unfold ltS at *
    omega
  have hw : anyWr P.S t n e.l = false := by
    unfold anyWr
    rw [List.any_eq_false]
    intro W hW hcl
    obtain ⟨X, x1, x2, x3, x4⟩ := clash_stamp ho hcl
    have := h.old e he W hW X x1 x2
    rw [x3, x4] at this
    exact this h2
  have hf : anyFu P.S e.l = false := by
    unfold anyFu
    rw [List.any_eq_false]
    intro W hW hcl
    have := of_decide_eq_true hcl
    have := h.room e he W hW
    omega
  have hm : (decide (okS t) && mayW e.l 1) = true := by rw [decide_eq_true ht, hg.2]; rfl
  have hpw := (may_w (n := n) ht hg.2).2.1
  have hk : (keysV P.S).length + newW P.S e.l ≤ 200 := by
    obtain ⟨U, u1, u2, u3⟩ := h.keys
    have hl : (keysV P.S ++ (e.l.filter (fun W => !decide (W.k ∈ keysV P.S))).map (fun W => W.k)).length ≤ U.length := by
      refine len_le_of_sub (List.nodup_append.2 ⟨keys_nodup ho, ?_, fun a ha b hb => ?_⟩) (fun k hk => ?_)
      · unfold List.Nodup
        rw [List.pairwise_map]
        exact hpw.filter _
      · obtain ⟨W, hW, rfl⟩ := List.mem_map.1 hb
        have := (List.mem_filter.1 hW).2
        intro e2
        subst e2
        simp at this
        exact this ha
      · rcases List.mem_append.1 hk with q | q
        · exact u1 k q
        · obtain ⟨W, hW, rfl⟩ := List.mem_map.1 q
          exact u2 _ (List.mem_flatMap.2 ⟨e, he, List.mem_map.2 ⟨W, (List.mem_filter.1 hW).1, rfl⟩⟩)
    rw [List.length_append, List.length_map] at hl
    unfold newW
    omega
  rw [apply_is ho, hm, if_neg (by decide), hw, if_neg (by decide), hf, Bool.false_or, decide_eq_false (by omega), if_neg (by decide)]
theorem has_of {T : List Ent} (h : TabK T) {e : Ent} (he : e ∈ T) : hasT T e.id = some e := by
  unfold hasT
  cases hf : T.find? (fun x => decide (x.id = e.id)) with
  | none => exact absurd (by simp) (List.find?_eq_none.1 hf e he)
  | some x =>
    have hx := List.mem_of_find?_eq_some hf
    have hid : x.id = e.id := of_decide_eq_true (List.find?_some (p := fun x : Ent => decide (x.id = e.id)) hf)
    obtain ⟨i, hi, rfl⟩ := List.mem_iff_getElem.1 hx
    obtain ⟨j, hj, rfl⟩ := List.mem_iff_getElem.1 he
    rcases Nat.lt_trichotomy i j with hij | hij | hij
    · have := List.pairwise_iff_getElem.1 h.up i j hi hj hij; omega
    · subst hij; rfl
    · have := List.pairwise_iff_getElem.1 h.up j i hj hi hij; omega
theorem PstK.one {P : PSt} (h : PstK P) {e : Ent} (he : e ∈ P.T) : stateP P e.id = 1 := by
  unfold stateP
  rw [h.opn e he, has_of h.tab he]
  rfl
theorem PstK.commits {P : PSt} (h : PstK P) {e : Ent} (he : e ∈ P.T) {t n : Int} (ht : okS t) (hc : ¬ cmpS t n e.t e.n < 0) : commitP P e.id t n = (0, ⟨putsW t n e.l P.S, dropT P.T e.id, P.O ++ [(e.id, 2)]⟩) := by
  unfold commitP
  have h1 := h.one he
  rw [decide_eq_true ht, if_neg (by decide), h1, if_neg (by decide), if_neg (by decide), has_of h.tab he]
  simp only
  rw [if_neg hc, h.ready he ht hc]
  simp
/-- What was committed is read at its stamp. -/
theorem PstK.reads {P : PSt} (h : PstK P) {e : Ent} (he : e ∈ P.T) {t n : Int} (ht : okS t) (hc : ¬ cmpS t n e.t e.n < 0) {W : Wrt} (hW : W ∈ e.l) : readP (commitP P e.id t n).2 W.k t n t = (0, if W.g = true then none else some W.v) ∧ (W.g = true → W.v = []) ∧ stateP (commitP P e.id t n).2 e.id = 2 := by
  have hg := h.tab.good e he
  unfold goodE at hg
  simp only [Bool.and_eq_true] at hg
  have hgk := (may_w (n := n) ht hg.2).2.2.1 W hW
  have hap := h.ready he ht hc
  have h0 : (applyV P.S t n e.l).1 = 0 := by rw [hap]
  obtain ⟨e1, e2, e3, e4, e5, _⟩ := apply_ok h0
  obtain ⟨_, hp, _⟩ := may_w (n := n) e4 e5
  have hrun := run_here e.l P.S h.sto.sto.ord e2 e3 hp W hW
  rw [← e1, hap] at hrun
  rw [h.commits he ht hc]
  refine ⟨?_, ?_, ?_⟩
  · unfold readP
    rw [hgk, decide_eq_true ht, if_neg (by decide)]
    have hb : blocksT (dropT P.T e.id) W.k t n = none := by
      unfold blocksT
      cases hh : holdT (dropT P.T e.id) W.k with
      | none => rfl
      | some x =>
        have hx := mem_drop_.1 (List.mem_of_find?_eq_some hh)
        have hk : hasK x W.k = true := List.find?_some (p := fun y : Ent => hasK y W.k) hh
        have q1 := h.tab.holder hx.1 hk
        rw [h.tab.holder he (hasK_of hW)] at q1
        injection q1 with q1
        exact absurd (by rw [q1]) hx.2
    rw [hb, if_neg (by simp)]
    congr 1
    unfold getV
    rw [hrun]
    rfl
  · intro hgn
    unfold mayW at e5
    simp only [Bool.and_eq_true, List.all_eq_true] at e5
    have := (e5.1.2 W hW).2
    rw [hgn] at this
    simpa using this
  · unfold stateP
    rw [over_app, h.opn e he]
    simp
/-- It stays prepared, whatever is done with others. -/
theorem stay_prep {P : PSt} {e x : Ent} (he : e ∈ P.T) : e ∈ (prepP P x).2.T := by
  unfold prepP
  split
  · exact he
  · split
    · exact he
    · split
      · exact he
      · split
        · exact he
        · exact add_mem he
theorem stay_commit {P : PSt} {e : Ent} (he : e ∈ P.T) {id t n : Int} (hne : id ≠ e.id) : e ∈ (commitP P id t n).2.T := by
  unfold commitP
  split
  · exact he
  · split
    · exact he
    · split
      · exact he
      · split
        · exact he
        · split
          · exact he
          · split
            · exact he
            · exact mem_drop_.2 ⟨he, fun e => hne e.symm⟩
theorem stay_abort {P : PSt} {e : Ent} (he : e ∈ P.T) {id : Int} (hne : id ≠ e.id) : e ∈ (abortP P id).2.T := by
  unfold abortP
  split
  · exact he
  · split
    · exact he
    · split
      · exact he
      · exact mem_drop_.2 ⟨he, fun e => hne e.symm⟩
theorem prep_in {P : PSt} {e : Ent} (h : (prepP P e).1 = 0) : e ∈ (prepP P e).2.T := by
  unfold prepP at h ⊢
  split at h
  · simp at h
  · rename_i h1
    rw [if_neg h1]
    split at h
    · simp at h
    · rename_i h2
      rw [if_neg h2]
      split at h
      · simp at h
      · rename_i h3
        rw [if_neg h3]
        split at h
        · simp at h
        · rename_i h4
          rw [if_neg h4]
          show e ∈ (addT P.T e).2
          have h5 : (addT P.T e).1 = 0 := h
          unfold addT at h5 ⊢
          split at h5
          · simp at h5
          · rename_i q1
            rw [if_neg q1]
            split at h5
            · simp at h5
            · rename_i q2
              rw [if_neg q2]
              split at h5
              · simp at h5
              · rename_i q3
                rw [if_neg q3]
                split at h5
                · simp at h5
                · rename_i q4
                  rw [if_neg q4]
                  simp

/-! ### What was read stays -/
/-- Whoever reads k at t.n waits for nobody. -/
def freeP (T : List Ent) (k : List Int) (t n : Int) : Prop := ∀ e ∈ T, hasK e k = true → 0 < cmpS e.t e.n t n
/-! ### What is over is over -/
theorem over_none {P : PSt} (h : PstK P) {id : Int} (h2 : stateP P id ≠ 2) (h3 : stateP P id ≠ 3) : overP P.O id = none := by
  cases e : overP P.O id with
  | none => rfl
  | some y =>
    unfold stateP at h2 h3
    rw [e] at h2 h3
    unfold overP at e
    cases e2 : P.O.find? (fun z => decide (z.1 = id)) with
    | none => rw [e2] at e; cases e
    | some z =>
      rw [e2] at e
      injection e with e
      have e3 : z.2 = y := e
      have := h.how z (List.mem_of_find?_eq_some e2)
      have h2' : y ≠ 2 := h2
      have h3' : y ≠ 3 := h3
      omega
end Go.Proofs.YtileidbdmpeciaaGreat

