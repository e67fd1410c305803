/-
  Stretches of keys at a time, and what a trim leaves of them. No program is named here.
-/
import Derived.Test.YtchcjdpajnbknabStoreAt
namespace Go.Proofs.Ytchcjdpajnbknab
open Go.RowKit
set_option linter.unusedVariables false

/-- What a store holds: in order; each version may be; no key has more than fifty. -/
structure StoK (L : List Ver) : Prop where
  ord : OrdK L
  may : ∀ V ∈ L, mayV V = true
  ins : ∀ V ∈ L, 0 ≤ V.n ∧ V.n ≤ 255 ∧ ∀ z ∈ V.v, 0 ≤ z ∧ z ≤ 255
  few : ∀ k, kMany L k ≤ 50
theorem StoK.nil : StoK [] := ⟨List.Pairwise.nil, fun V h => by simp at h, fun V h => by simp at h, fun k => by have := kMany_le [] k; simp at this; omega⟩
theorem chain_sub {L : List Ver} {k : List Int} {V : Ver} (h : V ∈ chainV L k) : V ∈ L := List.mem_of_mem_drop (List.mem_of_mem_take h)
theorem StoK.chn {L : List Ver} (h : StoK L) (k : List Int) : Chn (oneV L k) := by
  refine ⟨one_bare _, ups_chain h.ord k, fun V hV => ?_, fun V hV => ?_, by rw [one_len]; exact h.few k⟩
  · obtain ⟨X, hX, e⟩ := List.mem_map.1 hV
    rw [← e, bare_may]
    exact h.may X (chain_sub hX)
  · obtain ⟨X, hX, e⟩ := List.mem_map.1 hV
    rw [← e]
    exact h.ins X (chain_sub hX)
theorem mem_put {L : List Ver} {V X : Ver} (hX : X ∈ (putV L V).2) : X ∈ L ∨ (X = V ∧ mayV V = true) := by
  unfold putV at hX
  by_cases h1 : mayV V = false
  · rw [if_pos h1] at hX; exact .inl hX
  · rw [if_neg h1] at hX
    by_cases h2 : clashV L V = true
    · rw [if_pos h2] at hX; exact .inl hX
    · rw [if_neg h2] at hX
      by_cases h3 : 50 ≤ kMany L V.k
      · rw [if_pos h3] at hX; exact .inl hX
      · rw [if_neg h3] at hX
        rcases (mem_ins _).1 hX with e | e
        · exact .inr ⟨e, by simpa using h1⟩
        · exact .inl e
theorem StoK.put {L : List Ver} (h : StoK L) {V : Ver} (hb : 0 ≤ V.n ∧ V.n ≤ 255 ∧ ∀ z ∈ V.v, 0 ≤ z ∧ z ≤ 255) : StoK (putV L V).2 := by
  refine ⟨ord_put h.ord V, fun X hX => ?_, fun X hX => ?_, fun k => ?_⟩
  · rcases mem_put hX with e | ⟨rfl, e⟩
    · exact h.may X e
    · exact e
  · rcases mem_put hX with e | ⟨rfl, _⟩
    · exact h.ins X e
    · exact hb
  · by_cases hk : k = V.k
    · rw [hk, ← one_len, put_own h.ord]
      exact ((h.chn V.k).put (V := bare V) rfl hb).few
    · rw [← one_len, put_other h.ord V k hk, one_len]
      exact h.few k
theorem StoK.rest {L : List Ver} (h : StoK L) (t n : Int) : StoK (restV L t n) := by
  refine ⟨ord_rest h.ord t n, fun V hV => h.may V (List.mem_filter.1 hV).1, fun V hV => h.ins V (List.mem_filter.1 hV).1, fun k => ?_⟩
  rw [← one_len, rest_own h.ord]
  exact ((h.chn k).rest t n).few
theorem get_own (L : List Ver) (k : List Int) (t n : Int) : getV L k t n = getV (oneV L k) zeroK t n := by
  unfold getV
  rw [at_own]
  cases atV L k t n <;> rfl
/-- What is trimmed at a time is the same from that time on. -/
theorem get_trim {L : List Ver} (h : StoK L) {s m t n : Int} (hst : ¬ ltS t n s m) (k : List Int) : getV (restV L s m) k t n = getV L k t n := by
  rw [get_own, get_own L, rest_own h.ord]
  rcases trim_at (h.chn k) hst with e | ⟨e, X, hX, hg⟩
  · unfold getV; rw [e]
  · unfold getV; rw [e, hX]
    show none = if X.g = true then none else some X.v
    rw [if_pos hg]
theorem trim_twice {L : List Ver} (h : StoK L) (t n : Int) : restV (restV L t n) t n = restV L t n := by
  have key : ∀ X ∈ restV L t n, goesV (restV L t n) t n X = false := fun X hX => by
    have h1 := (h.rest t n).ord
    have h2 := goes_own (L := restV L t n) (k := X.k) (t := t) (n := n) (X := X) rfl
    rw [← h2, rest_own h.ord]
    have hm : bare X ∈ restV (oneV L X.k) t n := by
      rw [← rest_own h.ord]
      refine List.mem_map.2 ⟨X, ?_, rfl⟩
      rw [chain_filter h1]
      exact List.mem_filter.2 ⟨hX, decide_eq_true rfl⟩
    rw [← trim_same (h.chn X.k) t n] at hm
    have := (List.mem_filter.1 hm).2
    simpa using this
  have : restV (restV L t n) t n = (restV L t n).filter (fun V => !goesV (restV L t n) t n V) := rfl
  rw [this, List.filter_eq_self]
  intro X hX
  rw [key X hX]
  rfl
/-- The keys of a stretch that are told at a time, with their values. -/
def itemV (L : List Ver) (a b : List Int) (t n : Int) (k : List Int) : Option (List Int × List Int) := match getV L k t n with
  | none => none
  | some v => if withinK k a b = true then some (k, v) else none
def scanV (L : List Ver) (a b : List Int) (t n : Int) : List (List Int × List Int) := (keysV L).filterMap (itemV L a b t n)
theorem item_some {L : List Ver} {a b : List Int} {t n : Int} {k : List Int} {x : List Int × List Int} (h : itemV L a b t n k = some x) : x.1 = k ∧ getV L k t n = some x.2 ∧ withinK k a b = true := by
  unfold itemV at h
  cases hg : getV L k t n with
  | none => rw [hg] at h; cases h
  | some v =>
    rw [hg] at h
    by_cases hi : withinK k a b = true
    · simp only [if_pos hi] at h
      injection h with h
      rw [← h]
      exact ⟨rfl, rfl, hi⟩
    · simp only [if_neg hi] at h
      cases h
theorem get_there {L : List Ver} {k : List Int} {t n : Int} {v : List Int} (h : getV L k t n = some v) : k ∈ keysV L := by
  unfold getV at h
  cases hA : atV L k t n with
  | none => rw [hA] at h; cases h
  | some X =>
    refine (keys_mem L k).2 ⟨X, ?_, at_key hA⟩
    unfold atV at hA
    exact chain_sub (List.mem_reverse.1 (List.mem_of_find?_eq_some hA))
theorem scan_mem {L : List Ver} {a b : List Int} {t n : Int} {x : List Int × List Int} : x ∈ scanV L a b t n ↔ getV L x.1 t n = some x.2 ∧ withinK x.1 a b = true := by
  unfold scanV
  rw [List.mem_filterMap]
  constructor
  · rintro ⟨k, hk, e⟩
    obtain ⟨e1, e2, e3⟩ := item_some e
    rw [e1]
    exact ⟨e2, e3⟩
  · rintro ⟨h1, h2⟩
    refine ⟨x.1, get_there h1, ?_⟩
    unfold itemV
    rw [h1]
    simp only [if_pos h2]
theorem scan_up {L : List Ver} (h : OrdK L) (a b : List Int) (t n : Int) : (scanV L a b t n).Pairwise (fun x y => lexC x.1 y.1 = -1) := by
  unfold scanV
  refine List.Pairwise.filterMap _ (fun k k' hkk x hx y hy => ?_) (keys_up h)
  rw [(item_some hx).1, (item_some hy).1]
  exact hkk
theorem up_same_list : ∀ {A B : List (List Int × List Int)}, A.Pairwise (fun x y => lexC x.1 y.1 = -1) → B.Pairwise (fun x y => lexC x.1 y.1 = -1) → (∀ x, x ∈ A ↔ x ∈ B) → A = B
  | [], B, _, _, h => by
    cases B with
    | nil => rfl
    | cons y r => exact absurd ((h y).2 (by simp)) (by simp)
  | x :: A, [], _, _, h => absurd ((h x).1 (by simp)) (by simp)
  | x :: A, y :: B, hA, hB, h => by
    obtain ⟨a1, a2⟩ := List.pairwise_cons.1 hA
    obtain ⟨b1, b2⟩ := List.pairwise_cons.1 hB
    have irr : ∀ z : List Int, lexC z z ≠ -1 := fun z e => by rw [lexC_self] at e; omega
    have exy : x = y := by
      rcases List.mem_cons.1 ((h x).1 (by simp)) with e | hx
      · exact e
      · rcases List.mem_cons.1 ((h y).2 (by simp)) with e | hy
        · exact e.symm
        · exact absurd (lexC_trans (a1 y hy) (b1 x hx)) (irr _)
    subst exy
    rw [up_same_list a2 b2 (fun z => ?_)]
    have hz := h z
    constructor
    · intro hm
      rcases List.mem_cons.1 (hz.1 (List.mem_cons_of_mem _ hm)) with e | e
      · rw [e] at hm; exact absurd (a1 x hm) (irr _)
      · exact e
    · intro hm
      rcases List.mem_cons.1 (hz.2 (List.mem_cons_of_mem _ hm)) with e | e
      · rw [e] at hm; exact absurd (b1 x hm) (irr _)
      · exact e
/-- Two stores that tell the same of each key at a time tell the same stretches. -/
theorem scan_same {L M : List Ver} (hL : OrdK L) (hM : OrdK M) {a b : List Int} {t n t' n' : Int} (h : ∀ k, getV L k t n = getV M k t' n') : scanV L a b t n = scanV M a b t' n' :=
  up_same_list (scan_up hL a b t n) (scan_up hM a b t' n') (fun x => by rw [scan_mem, scan_mem, h])
/-- Two stretches side by side are one. -/
theorem in_split {k a m b : List Int} (ham : 0 ≤ lexC m a) (hm0 : m ≠ zeroK) (hmb : b = zeroK ∨ lexC m b ≤ 0) (hne : m ≠ b) : withinK k a b = true ↔ withinK k a m = true ∨ withinK k m b = true := by
  have w1 := lexC_ways k m
  have w2 := lexC_ways k a
  have w3 := lexC_ways k b
  have w4 := lexC_ways m a
  have w5 := lexC_ways m b
  have s1 := lexC_swap k m
  have s2 := lexC_swap k a
  have s3 := lexC_swap m a
  have s4 := lexC_swap k b
  have s5 := lexC_swap m b
  have t1 : lexC k m = -1 → lexC m b = -1 → lexC k b = -1 := lexC_trans
  have t2 : lexC a m = -1 → lexC m k = -1 → lexC a k = -1 := lexC_trans
  have z1 : lexC k m = 0 → lexC k a = lexC m a := fun e => by rw [lexC_eq e]
  have z2 : lexC m a = 0 → lexC k m = lexC k a := fun e => by rw [lexC_eq e]
  have z3 : lexC m b = 0 → m = b := lexC_eq
  unfold withinK
  simp only [Bool.and_eq_true, Bool.or_eq_true, decide_eq_true_eq]
  by_cases hb : b = zeroK
  · have hb2 : (b = zeroK) = True := by simp [hb]
    simp only [hb2, hm0, true_or, and_true, false_or]
    constructor
    · intro h
      rcases w1 with e | e | e
      · exact .inl ⟨h, by omega⟩
      · exact .inr (by omega)
      · exact .inr (by omega)
    · rintro (⟨h, _⟩ | h)
      · exact h
      · rcases w1 with e | e | e
        · omega
        · rw [z1 e]; exact ham
        · rcases w4 with e4 | e4 | e4
          · omega
          · rw [← z2 e4]; omega
          · have := t2 (by omega) (by omega)
            omega
  · have hmb2 : lexC m b ≤ 0 := hmb.resolve_left hb
    have hmb3 : lexC m b = -1 := by
      rcases w5 with e | e | e
      · exact e
      · exact absurd (z3 e) hne
      · omega
    simp only [hb, hm0, false_or]
    constructor
    · rintro ⟨h1, h2⟩
      rcases w1 with e | e | e
      · exact .inl ⟨h1, by omega⟩
      · exact .inr ⟨by omega, h2⟩
      · exact .inr ⟨by omega, h2⟩
    · rintro (⟨h1, h2⟩ | ⟨h1, h2⟩)
      · exact ⟨h1, lex_neg.2 (t1 (lex_neg.1 h2) hmb3)⟩
      · refine ⟨?_, h2⟩
        rcases w1 with e | e | e
        · omega
        · rw [z1 e]; exact ham
        · rcases w4 with e4 | e4 | e4
          · omega
          · rw [← z2 e4]; omega
          · have := t2 (by omega) (by omega)
            omega
theorem scan_split {L : List Ver} (h : OrdK L) {a m b : List Int} {t n : Int} (ham : 0 ≤ lexC m a) (hm0 : m ≠ zeroK) (hmb : b = zeroK ∨ lexC m b ≤ 0) (hne : m ≠ b) : scanV L a b t n = scanV L a m t n ++ scanV L m b t n := by
  refine up_same_list (scan_up h a b t n) (List.pairwise_append.2 ⟨scan_up h a m t n, scan_up h m b t n, fun x hx y hy => ?_⟩) (fun x => ?_)
  · have hx2 := (scan_mem.1 hx).2
    have hy2 := (scan_mem.1 hy).2
    unfold withinK at hx2 hy2
    simp only [Bool.and_eq_true, Bool.or_eq_true, decide_eq_true_eq, hm0, false_or] at hx2 hy2
    have e1 := lex_neg.1 hx2.2
    rcases lexC_ways y.1 m with e | e | e
    · omega
    · rw [lexC_eq e]; exact e1
    · exact lexC_trans e1 (by rw [lexC_swap y.1 m]; omega)
  · rw [List.mem_append, scan_mem, scan_mem, scan_mem, in_split ham hm0 hmb hne]
    constructor
    · rintro ⟨h1, h2 | h2⟩
      · exact .inl ⟨h1, h2⟩
      · exact .inr ⟨h1, h2⟩
    · rintro (⟨h1, h2⟩ | ⟨h1, h2⟩)
      · exact ⟨h1, .inl h2⟩
      · exact ⟨h1, .inr h2⟩
/-- May writes be (but for their stamp): so many, each may be, no key twice. -/
def mayW (l : List Wrt) (least : Nat) : Bool := decide (least ≤ l.length ∧ l.length ≤ 16) && l.all (fun W => goodK W.k && decide (W.v.length ≤ 200) && (!W.g || decide (W.v = []))) && decide (l.Pairwise fun A B => A.k ≠ B.k)
/-- Apply: its answer, and what is there behind it. -/
def applyV (L : List Ver) (t n : Int) (l : List Wrt) : Int × List Ver :=
  if (decide (okS t) && mayW l 1) = false then (1, L) else
  if (runW t n l L false).1 = 5 then (5, L) else
  if ((runW t n l L false).2.2 || decide (200 < (keysV (runW t n l L false).2.1).length)) = true then (6, L) else (0, (runW t n l L false).2.1)
theorem apply_bad {L : List Ver} {t n : Int} {l : List Wrt} (h : (applyV L t n l).1 ≠ 0) : (applyV L t n l).2 = L := by
  unfold applyV at h ⊢
  by_cases h1 : (decide (okS t) && mayW l 1) = false
  · rw [if_pos h1]
  · rw [if_neg h1] at h ⊢
    by_cases h2 : (runW t n l L false).1 = 5
    · rw [if_pos h2]
    · rw [if_neg h2] at h ⊢
      by_cases h3 : ((runW t n l L false).2.2 || decide (200 < (keysV (runW t n l L false).2.1).length)) = true
      · rw [if_pos h3]
      · rw [if_neg h3] at h
        exact absurd rfl h
theorem apply_ok {L : List Ver} {t n : Int} {l : List Wrt} (h : (applyV L t n l).1 = 0) : (applyV L t n l).2 = (runW t n l L false).2.1 ∧ (runW t n l L false).1 ≠ 5 ∧ (runW t n l L false).2.2 = false ∧ okS t ∧ mayW l 1 = true ∧ (keysV (runW t n l L false).2.1).length ≤ 200 := by
  unfold applyV at h ⊢
  by_cases h1 : (decide (okS t) && mayW l 1) = false
  · rw [if_pos h1] at h; cases h
  · rw [if_neg h1] at h ⊢
    by_cases h2 : (runW t n l L false).1 = 5
    · rw [if_pos h2] at h; cases h
    · rw [if_neg h2] at h ⊢
      by_cases h3 : ((runW t n l L false).2.2 || decide (200 < (keysV (runW t n l L false).2.1).length)) = true
      · rw [if_pos h3] at h; cases h
      · rw [if_neg h3]
        simp only [Bool.not_eq_true, Bool.or_eq_false_iff, decide_eq_false_iff_not] at h3
        simp only [Bool.not_eq_false, Bool.and_eq_true, decide_eq_true_eq] at h1
        exact ⟨rfl, h2, h3.1, h1.1, h1.2, by omega⟩
end Go.Proofs.Ytchcjdpajnbknab
