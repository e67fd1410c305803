/-
  Stores of bytes, as the landed package reads them: each version is put into the store at once; what it then asks of the newest one says whether it is above those ahead of it. No program is named here.
-/
import Derived.Test.YtpnjcflfnoamoaaGreatRefCk3
import Derived.Test.YtpnjcflfnoamoaaGreatAu28
namespace Go.Proofs.YtpnjcflfnoamoaaGreat
open Go.RowKit
set_option linter.unusedVariables false
set_option linter.unusedSimpArgs false

theorem clash_out {M : List Ver} {V : Ver} (ho : OrdK M) (h : ∀ A ∈ M, ltK A V) : clashV M V = false := by
  unfold clashV
  cases e : (chainV M V.k)[putR M V]? with
  | none => rfl
  | some X =>
    simp only
    refine decide_eq_false (fun hx => ?_)
    have hX : X ∈ M := chain_sub (List.mem_of_getElem? e)
    rcases h X hX with e1 | ⟨_, e1⟩
    · have hk : X.k = V.k := ((chain_mem ho).1 (List.mem_of_getElem? e)).2
      rw [hk, lexC_self] at e1
      omega
    · unfold ltV at e1
      rw [hx.1, hx.2] at e1
      exact ltS_irr _ _ e1
/-- What stands above all goes to the end. -/
theorem put_top {M : List Ver} {V : Ver} (ho : OrdK M) (hm : mayV V = true) (hf : kMany M V.k < 50) (h : ∀ A ∈ M, ltK A V) : putV M V = (0, M ++ [V]) := by
  have hc := clash_out ho h
  have hp : putAt M V = M.length := by
    have hl := (putAt_le M V).2
    by_cases e : putAt M V = M.length
    · exact e
    · obtain ⟨X, hX⟩ : ∃ X, M[putAt M V]? = some X := ⟨_, List.getElem?_eq_getElem (by omega)⟩
      have h1 := (put_place ho hc _ X hX).2 (Nat.le_refl _)
      exact absurd (ltK_trans h1 (h X (List.mem_of_getElem? hX))) (ltK_irr V)
  unfold putV
  rw [if_neg (by rw [hm]; decide), if_neg (by rw [hc]; decide), if_neg (by omega), hp, List.take_of_length_le (Nat.le_refl _), List.drop_eq_nil_of_le (Nat.le_refl _)]
theorem mayW_one {W : Wrt} {t n : Int} (ht : okS t) : mayW [W] 1 = (goodK W.k && mayV (verW t n W)) := by
  unfold mayW mayV verW
  simp only [List.length_singleton, List.all_cons, List.all_nil, Bool.and_true, List.pairwise_singleton, decide_true]
  rw [decide_eq_true (by omega), decide_eq_true ht, Bool.true_and, Bool.true_and, Bool.and_assoc]
theorem apply_one {M : List Ver} (ho : OrdK M) (t n : Int) (W : Wrt) : applyV M t n [W] =
    if (mayV (verW t n W) && goodK W.k) = false then (1, M) else if clashV M (verW t n W) = true then (5, M) else if (decide (50 ≤ kMany M W.k) || decide (200 < (keysV M).length + (if W.k ∈ keysV M then 0 else 1))) = true then (6, M) else (0, (putV M (verW t n W)).2) := by
  have e1 : (decide (okS t) && mayW [W] 1) = (mayV (verW t n W) && goodK W.k) := by
    by_cases ht : okS t
    · rw [mayW_one (n := n) ht, decide_eq_true ht, Bool.true_and, Bool.and_comm]
    · have : mayV (verW t n W) = false := by
        unfold mayV verW
        simp only
        rw [decide_eq_false ht]
        rfl
      rw [decide_eq_false ht, this]; rfl
  rw [apply_is ho, e1]
  have e2 : anyWr M t n [W] = clashV M (verW t n W) := by unfold anyWr; simp
  have e3 : anyFu M [W] = decide (50 ≤ kMany M W.k) := by unfold anyFu; simp
  have e4 : newW M [W] = if W.k ∈ keysV M then 0 else 1 := by
    unfold newW
    by_cases e : W.k ∈ keysV M <;> simp [e]
  rw [e2, e3, e4]
  rfl
/-- What is read so far: the versions of the keys ahead, and of k those that are there; pv is the newest of these. -/
structure CvS (M : List Ver) (k : List Int) (j i : Nat) (pv : Option (Int × Int)) : Prop where
  ord : OrdK M
  below : ∀ A ∈ M, lexC A.k k = -1 ∨ (A.k = k ∧ ∃ x, pv = some x ∧ (ltS A.t A.n x.1 x.2 ∨ (A.t = x.1 ∧ A.n = x.2)))
  last : ∀ x, pv = some x → ∃ A ∈ M, A.k = k ∧ A.t = x.1 ∧ A.n = x.2
  many : kMany M k ≤ j
  keys : (keysV M).length + (if k ∈ keysV M then 0 else 1) ≤ i
structure CkS (M : List Ver) (i : Nat) (p : Option (List Int)) : Prop where
  ord : OrdK M
  below : ∀ A ∈ M, ∃ x, p = some x ∧ (lexC A.k x = -1 ∨ A.k = x)
  keys : (keysV M).length ≤ i
theorem CkS.start : CkS [] 0 none := ⟨List.Pairwise.nil, fun A h => by simp at h, by simp [keysV]⟩
theorem CkS.key {M : List Ver} {i : Nat} {p : Option (List Int)} {k : List Int} (h : CkS M i p) (ha : aboveK p k = true) : CvS M k 0 (i + 1) none := by
  have hb : ∀ A ∈ M, lexC A.k k = -1 := fun A hA => by
    obtain ⟨x, e, h1⟩ := h.below A hA
    subst e
    have h2 : 0 < lexC k x := of_decide_eq_true ha
    have h3 : lexC x k = -1 := by rw [lexC_swap k x]; rcases lexC_ways k x with e | e | e <;> omega
    rcases h1 with e | e
    · exact lexC_trans e h3
    · rw [e]; exact h3
  refine ⟨h.ord, fun A hA => .inl (hb A hA), fun x e => (by cases e), ?_, ?_⟩
  · rw [← chain_len, chain_filter h.ord, List.filter_eq_nil_iff.2 (fun A hA => by
      simp only [decide_eq_true_eq]
      intro e
      have := hb A hA
      rw [e, lexC_self] at this
      omega)]
    exact Nat.le_refl _
  · have := h.keys
    split <;> omega
theorem CvS.below_of {M : List Ver} {k : List Int} {j i : Nat} {pv : Option (Int × Int)} {V : Ver} (h : CvS M k j i pv) (hk : V.k = k) (ha : aboveV pv V.t V.n = true) : ∀ A ∈ M, ltK A V := fun A hA => by
  rcases h.below A hA with e | ⟨e, x, ex, e2⟩
  · exact .inl (by rw [hk]; exact e)
  · subst ex
    have h1 : ltS x.1 x.2 V.t V.n := cmp_pos.1 (of_decide_eq_true ha)
    refine .inr ⟨by rw [e, hk], ?_⟩
    show ltS A.t A.n V.t V.n
    rcases e2 with e2 | ⟨e2, e3⟩
    · exact ltS_trans e2 h1
    · rw [e2, e3]; exact h1
theorem newest_app {M : List Ver} {V : Ver} (ho : OrdK (M ++ [V])) : newestV (M ++ [V]) V.k = some V := by
  unfold newestV
  rw [chain_filter ho, List.filter_append, List.filter_cons_of_pos (by simp), List.filter_nil, List.getLast?_append]
  rfl
/-- One that may be is put behind the others, and is the newest. -/
theorem CvS.yes {M : List Ver} {k : List Int} {j i : Nat} {pv : Option (Int × Int)} {t n : Int} {W : Wrt} (h : CvS M k j i pv) (hk : W.k = k) (hg : goodK k = true) (hm : mayVer pv (verW t n W) = true) (hj : j < 50) (hi : i ≤ 200) :
    applyV M t n [W] = (0, M ++ [verW t n W]) ∧ newestV (M ++ [verW t n W]) k = some (verW t n W) ∧ CvS (M ++ [verW t n W]) k (j + 1) i (some (t, n)) := by
  unfold mayVer at hm
  simp only [Bool.and_eq_true] at hm
  have hb := h.below_of (V := verW t n W) hk hm.2
  have hkv : (verW t n W).k = k := hk
  have hmany : kMany M (verW t n W).k < 50 := by rw [hkv]; have := h.many; omega
  have hp := put_top h.ord hm.1 hmany hb
  have hko : (if W.k ∈ keysV M then 0 else 1) = (if k ∈ keysV M then 0 else 1) := by rw [hk]
  have ho : OrdK (M ++ [verW t n W]) := by have := ord_put h.ord (verW t n W); rw [hp] at this; exact this
  refine ⟨?_, ?_, ⟨ho, fun A hA => ?_, fun x e => ⟨verW t n W, by simp, hk, ?_, ?_⟩, ?_, ?_⟩⟩
  · rw [apply_one h.ord, hm.1, hk, hg, if_neg (by decide), clash_out h.ord hb, if_neg (by decide), if_neg, hp]
    rw [decide_eq_false (by rw [hkv] at hmany; omega), decide_eq_false (by have := h.keys; omega)]
    decide
  · rw [← hkv]; exact newest_app ho
  · rcases List.mem_append.1 hA with e | e
    · rcases h.below A e with e1 | ⟨e1, x, ex, e2⟩
      · exact .inl e1
      · subst ex
        have h1 : ltS x.1 x.2 t n := cmp_pos.1 (of_decide_eq_true hm.2)
        refine .inr ⟨e1, (t, n), rfl, .inl ?_⟩
        rcases e2 with e2 | ⟨e2, e3⟩
        · exact ltS_trans e2 h1
        · rw [e2, e3]; exact h1
    · rw [List.mem_singleton] at e
      subst e
      exact .inr ⟨hk, (t, n), rfl, .inr ⟨rfl, rfl⟩⟩
  · injection e with e; rw [← e]; rfl
  · injection e with e; rw [← e]; rfl
  · rw [← chain_len, chain_filter ho, List.filter_append, List.length_append, ← chain_filter h.ord, chain_len]
    have := h.many
    have h2 := List.length_filter_le (fun V : Ver => decide (V.k = k)) [verW t n W]
    simp only [List.length_singleton] at h2
    omega
  · have h0 : (putV M (verW t n W)).1 = 0 := by rw [hp]
    obtain ⟨k1, k2⟩ := keys_put h.ord h0
    rw [hp] at k1 k2
    have hin : k ∈ keysV (M ++ [verW t n W]) := (k2 k).2 (.inl hkv.symm)
    rw [if_pos hin, k1, hkv]
    have := h.keys
    omega
/-- One that may not be is refused, or it isn't the newest. -/
theorem CvS.no {M : List Ver} {k : List Int} {j i : Nat} {pv : Option (Int × Int)} {t n : Int} {W : Wrt} (h : CvS M k j i pv) (hk : W.k = k) (hm : goodK k = false ∨ mayVer pv (verW t n W) = false) :
    (applyV M t n [W]).1 ≠ 0 ∨ ¬ (newT (newestV (applyV M t n [W]).2 k) = t ∧ newN (newestV (applyV M t n [W]).2 k) = n) := by
  by_cases h0 : (applyV M t n [W]).1 = 0
  · refine .inr (fun e => ?_)
    rw [apply_one h.ord] at h0 e
    by_cases h1 : (mayV (verW t n W) && goodK W.k) = false
    · rw [if_pos h1] at h0; simp at h0
    rw [if_neg h1] at h0 e
    by_cases h2 : clashV M (verW t n W) = true
    · rw [if_pos h2] at h0; simp at h0
    rw [if_neg h2] at h0 e
    by_cases h3 : (decide (50 ≤ kMany M W.k) || decide (200 < (keysV M).length + (if W.k ∈ keysV M then 0 else 1))) = true
    · rw [if_pos h3] at h0; simp at h0
    rw [if_neg h3] at e
    simp only [Bool.not_eq_false, Bool.and_eq_true] at h1
    rw [hk] at h1
    simp only [Bool.not_eq_true] at h2
    rcases hm with hm | hm
    · rw [h1.2] at hm; cases hm
    · unfold mayVer at hm
      rw [h1.1, Bool.true_and] at hm
      cases pv with
      | none => cases hm
      | some x =>
        have hn : ¬ 0 < cmpS t n x.1 x.2 := of_decide_eq_false hm
        obtain ⟨A, hA, a1, a2, a3⟩ := h.last x rfl
        have ho := ord_put h.ord (verW t n W)
        have hput : (putV M (verW t n W)).2 = M.take (putAt M (verW t n W)) ++ verW t n W :: M.drop (putAt M (verW t n W)) := by
          unfold putV
          rw [if_neg (by rw [h1.1]; decide), if_neg (by rw [h2]; decide)]
          rw [if_neg]
          intro e5
          simp only [Bool.or_eq_true, decide_eq_true_eq, not_or] at h3
          exact h3.1 e5
        have hAR : A ∈ (putV M (verW t n W)).2 := by
          rw [hput]
          have : A ∈ M.take (putAt M (verW t n W)) ++ M.drop (putAt M (verW t n W)) := by rw [List.take_append_drop]; exact hA
          rcases List.mem_append.1 this with q | q
          · exact List.mem_append_left _ q
          · exact List.mem_append_right _ (List.mem_cons_of_mem _ q)
        have hAC : A ∈ chainV (putV M (verW t n W)).2 k := (chain_mem ho).2 ⟨hAR, a1⟩
        -- the newest one
        obtain ⟨Y, hY⟩ : ∃ Y, newestV (putV M (verW t n W)).2 k = some Y := by
          unfold newestV
          cases e6 : (chainV (putV M (verW t n W)).2 k).getLast? with
          | none => rw [List.getLast?_eq_none_iff] at e6; rw [e6] at hAC; simp at hAC
          | some Y => exact ⟨Y, rfl⟩
        rw [hY] at e
        have e1 : Y.t = t := e.1
        have e2 : Y.n = n := e.2
        have hYA : Y = A ∨ ltS A.t A.n Y.t Y.n := by
          unfold newestV at hY
          obtain ⟨l, hl⟩ := List.getLast?_eq_some_iff.1 hY
          have hu := ups_of ho k
          rw [hl] at hu hAC
          rcases List.mem_append.1 hAC with q | q
          · exact .inr ((List.pairwise_append.1 hu).2.2 A q Y (by simp))
          · rw [List.mem_singleton] at q; exact .inl q.symm
        rcases hYA with q | q
        · -- then it was there ahead
          obtain ⟨jj, hj⟩ := List.getElem?_of_mem hA
          have hpl := put_place h.ord h2 jj A hj
          have hbad : ¬ ltK A (verW t n W) ∧ ¬ ltK (verW t n W) A := by
            subst q
            constructor
            · rintro (z | ⟨_, z⟩)
              · have hz : lexC Y.k W.k = -1 := z
                rw [a1, hk, lexC_self] at hz; omega
              · have hz : ltS Y.t Y.n t n := z
                rw [e1, e2] at hz; exact ltS_irr _ _ hz
            · rintro (z | ⟨_, z⟩)
              · have hz : lexC W.k Y.k = -1 := z
                rw [a1, hk, lexC_self] at hz; omega
              · have hz : ltS t n Y.t Y.n := z
                rw [e1, e2] at hz; exact ltS_irr _ _ hz
          by_cases hlt : jj < putAt M (verW t n W)
          · exact hbad.1 (hpl.1 hlt)
          · exact hbad.2 (hpl.2 (by omega))
        · rw [e1, e2, a2, a3] at q
          exact hn (cmp_pos.2 q)
  · exact .inl h0
theorem CvS.key {M : List Ver} {k : List Int} {j i : Nat} {x : Int × Int} (h : CvS M k j i (some x)) : CkS M i (some k) := by
  refine ⟨h.ord, fun A hA => ⟨k, rfl, (h.below A hA).imp id (fun e => e.1)⟩, ?_⟩
  obtain ⟨A, hA, e, _⟩ := h.last x rfl
  have hin : k ∈ keysV M := (keys_mem M k).2 ⟨A, hA, e⟩
  have := h.keys
  rw [if_pos hin] at this
  omega
/-- Both in one: it is taken just if it may be. -/
theorem CvS.just {M : List Ver} {k : List Int} {j i : Nat} {pv : Option (Int × Int)} {t n : Int} {W : Wrt} (h : CvS M k j i pv) (hk : W.k = k) (hj : j < 50) (hi : i ≤ 200) :
    ((applyV M t n [W]).1 = 0 ∧ newT (newestV (applyV M t n [W]).2 k) = t ∧ newN (newestV (applyV M t n [W]).2 k) = n) ↔ (goodK k = true ∧ mayVer pv (verW t n W) = true) := by
  constructor
  · intro e
    cases hg : goodK k with
    | false => exact absurd e.2 ((h.no hk (.inl hg)).resolve_left (fun e2 => e2 e.1))
    | true =>
      cases hm : mayVer pv (verW t n W) with
      | false => exact absurd e.2 ((h.no hk (.inr hm)).resolve_left (fun e2 => e2 e.1))
      | true => exact ⟨rfl, rfl⟩
  · intro e
    obtain ⟨e1, e2, _⟩ := h.yes hk e.1 e.2 hj hi
    rw [e1]
    show _ = _ ∧ newT (newestV (M ++ [verW t n W]) k) = t ∧ newN (newestV (M ++ [verW t n W]) k) = n
    rw [e2]
    exact ⟨rfl, rfl, rfl⟩
/-! ### The pieces, as the landed reader takes them -/
theorem rds_none {α : Type} {p : Pr α} {o : Option (List Int)} (v : α) (h : o.bind p = none) : Rds p o none v := by
  cases o with
  | none => exact .of_bad _ _
  | some zs => exact .no _ h
/-- The landed reader bounds a version's flag and its value's length at once; what it answers is the same. -/
theorem verL_rds {o o1 o2 o3 : Option (List Int)} {k : List Int} {pv : Option (Int × Int)} {s : Int × Int} {g : Bool} {v : List Int} (hz : ∀ zs, o = some zs → Bys zs) (D1 : Rds stampP o o1 s) (D2 : Rds flagP o1 o2 g) (D3 : Rds txtP o2 o3 v) :
    ((o3 = none ∨ mayVer pv ⟨k, s.1, s.2, v, g⟩ = false) → o.bind (verP k pv) = none) ∧ (∀ r, o3 = some r → mayVer pv ⟨k, s.1, s.2, v, g⟩ = true → Rds (verP k pv) o (some r) ⟨k, s.1, s.2, v, g⟩) := by
  cases o with
  | none =>
    cases (show o1 = none from D1)
    cases (show o2 = none from D2)
    cases (show o3 = none from D3)
    exact ⟨fun _ => rfl, fun r e => (by cases e)⟩
  | some zs =>
    have hzs := hz zs rfl
    show (_ → verP k pv zs = none) ∧ _
    rcases D1.cases with ⟨e, rfl⟩ | ⟨r1, e, rfl⟩
    · cases (show o2 = none from D2)
      cases (show o3 = none from D3)
      exact ⟨fun _ => by unfold verP; rw [seq_none e], fun r e => (by cases e)⟩
    · have h1 := stampP_keeps _ _ _ hzs e
      rcases D2.cases with ⟨e2, rfl⟩ | ⟨r2, e2, rfl⟩
      · cases (show o3 = none from D3)
        rw [flag_bool h1] at e2
        exact ⟨fun _ => by unfold verP; rw [seq_some e, seq_none e2], fun r e => (by cases e)⟩
      · have h2 := flagP_keeps _ _ _ h1 e2
        rw [flag_bool h1] at e2
        rcases D3.cases with ⟨e3, rfl⟩ | ⟨r3, e3, rfl⟩
        · refine ⟨fun _ => ?_, fun r e => (by cases e)⟩
          unfold verP
          rw [seq_some e, seq_some e2]
          cases e4 : textP r2 with
          | none => rw [seq_none e4]
          | some x =>
            obtain ⟨v', r'⟩ := x
            rw [seq_some e4, if_neg]
            · rfl
            · intro hm
              simp only [Bool.and_eq_true] at hm
              have h5 := hm.1
              unfold mayV at h5
              simp only [Bool.and_eq_true, decide_eq_true_eq] at h5
              rw [text_txt h2 e4 h5.1.2] at e3
              cases e3
        · obtain ⟨e4, _⟩ := txt_text e3
          refine ⟨fun hm => ?_, fun r er hm => ?_⟩
          · rcases hm with hm | hm
            · cases hm
            · unfold verP
              rw [seq_some e, seq_some e2, seq_some e4, if_neg]
              · rfl
              · intro hm2
                have h' : (mayV ⟨k, s.1, s.2, v, g⟩ && aboveV pv s.1 s.2) = false := hm
                rw [h'] at hm2; cases hm2
          · injection er with er
            subst er
            refine .yes ?_
            unfold verP
            rw [seq_some e, seq_some e2, seq_some e4, if_pos (by exact hm)]
            rfl
theorem key_low {k : List Int} (hk : Ky k) (h : lexC k zeroK ≤ 0) : goodK k = false := by
  unfold goodK
  refine decide_eq_false (fun e => ?_)
  have h0 : k.getD 0 0 ≠ 0 := e.1
  have hl := hk.len
  have hp : 0 ≤ k.getD 0 0 := by
    cases k with
    | nil => simp at hl
    | cons x r => exact (hk.bytes x (by simp)).1
  have h1 : lexC k zeroK = 1 := lexC_more 0 rfl (by omega) (by decide) (by
    have : zeroK.getD 0 0 = 0 := rfl
    rw [this]; omega)
  omega
theorem rds_some {α : Type} [Inhabited α] (p : Pr α) (o : Option (List Int)) : ∃ o' v, Rds p o o' v := by
  cases o with
  | none => exact ⟨none, default, .of_bad _ _⟩
  | some zs =>
    cases e : p zs with
    | none => exact ⟨none, default, .no _ e⟩
    | some x => exact ⟨some x.2, x.1, .yes e⟩
end Go.Proofs.YtpnjcflfnoamoaaGreat
