/-
  What a store that keeps one chain a key looks at ahead of its writes, held against writes that are tried one behind the other; a store as its keys' chains one behind the other; sums over keys. No program is named here.
  What is prepared, as chapter 13 tells it: entries by their numbers; who holds a key, whom a reader waits for. No program is named here.
  Plain facts on integers, bits and lists: numbers in groups of seven bits, folded signs, cut bits. No program is named here.
  Records in bytes, as chapter 14 tells it: what is written, how it is read; what is written is read back, and nothing else has its bytes. No program is named here.
  One that takes part, as chapter 16 tells it: what is committed, what is prepared, what is over; what each call answers and leaves. No program is named here.
-/
import Derived.Test.YtileidbdmpeciaaGreatAu113
import Derived.Test.YtileidbdmpeciaaGreatAu79
import Derived.WalkKit
import Derived.Laws.BitsAllLaws
namespace Go.Proofs.YtileidbdmpeciaaGreat
open Go.RowKit
set_option linter.unusedVariables false

theorem keys_nodup {L : List Ver} (h : OrdK L) : (keysV L).Nodup := by
  refine List.Pairwise.imp ?_ (keys_up h)
  intro a b hab e
  rw [e, lexC_self] at hab
  omega
theorem ltK_irr (A : Ver) : ¬ ltK A A := by
  rintro (h | ⟨_, h⟩)
  · rw [lexC_self] at h; omega
  · exact ltV_irr A h
theorem ltK_trans {A B D : Ver} (h1 : ltK A B) (h2 : ltK B D) : ltK A D := by
  rcases h1 with h1 | ⟨e1, h1⟩
  · rcases h2 with h2 | ⟨e2, h2⟩
    · exact .inl (lexC_trans h1 h2)
    · exact .inl (by rw [← e2]; exact h1)
  · rcases h2 with h2 | ⟨e2, h2⟩
    · exact .inl (by rw [e1]; exact h2)
    · exact .inr ⟨e1.trans e2, ltS_trans h1 h2⟩
theorem ord_ext : ∀ {A B : List Ver}, OrdK A → OrdK B → (∀ x, x ∈ A ↔ x ∈ B) → A = B
  | [], B, _, _, h => by
    cases B with
    | nil => rfl
    | cons y r => exact absurd ((h y).2 (by simp)) (by simp)
  | x :: A, [], _, _, h => absurd ((h x).1 (by simp)) (by simp)
  | x :: A, y :: B, hA, hB, h => by
    obtain ⟨a1, a2⟩ := List.pairwise_cons.1 hA
    obtain ⟨b1, b2⟩ := List.pairwise_cons.1 hB
    have exy : x = y := by
      rcases List.mem_cons.1 ((h x).1 (by simp)) with e | hx
      · exact e
      · rcases List.mem_cons.1 ((h y).2 (by simp)) with e | hy
        · exact e.symm
        · exact absurd (ltK_trans (a1 y hy) (b1 x hx)) (ltK_irr _)
    subst exy
    rw [ord_ext a2 b2 (fun z => ?_)]
    have hz := h z
    constructor
    · intro hm
      rcases List.mem_cons.1 (hz.1 (List.mem_cons_of_mem _ hm)) with e | e
      · rw [e] at hm; exact absurd (a1 x hm) (ltK_irr _)
      · exact e
    · intro hm
      rcases List.mem_cons.1 (hz.2 (List.mem_cons_of_mem _ hm)) with e | e
      · rw [e] at hm; exact absurd (b1 x hm) (ltK_irr _)
      · exact e
theorem chain_mem {L : List Ver} (h : OrdK L) {k : List Int} {X : Ver} : X ∈ chainV L k ↔ X ∈ L ∧ X.k = k := by
  rw [chain_filter h, List.mem_filter]
  simp
/-- A store is its keys' chains one behind the other. -/
theorem flat_keys {L : List Ver} (h : OrdK L) : (keysV L).flatMap (chainV L) = L := by
  refine ord_ext ?_ h (fun X => ?_)
  · unfold OrdK
    rw [List.pairwise_flatMap]
    refine ⟨fun k _ => ?_, ?_⟩
    · rw [chain_filter h]
      exact List.Pairwise.filter _ h
    · refine List.Pairwise.imp ?_ (keys_up h)
      intro a b hab X hX Y hY
      rw [chain_mem h] at hX hY
      exact .inl (by rw [hX.2, hY.2]; exact hab)
  · rw [List.mem_flatMap]
    constructor
    · rintro ⟨k, _, hX⟩
      exact ((chain_mem h).1 hX).1
    · intro hX
      exact ⟨X.k, (keys_mem L X.k).2 ⟨X, hX, rfl⟩, (chain_mem h).2 ⟨hX, rfl⟩⟩
/-- A chain's version with its key. -/
def keyed (k : List Int) (V : Ver) : Ver := { V with k := k }
theorem keyed_bare {V : Ver} {k : List Int} (h : V.k = k) : keyed k (bare V) = V := by
  subst h
  rfl
theorem keyed_one {L : List Ver} (h : OrdK L) (k : List Int) : (oneV L k).map (keyed k) = chainV L k := by
  unfold oneV
  rw [List.map_map]
  conv => rhs; rw [← List.map_id (chainV L k)]
  refine List.map_congr_left (fun V hV => ?_)
  exact keyed_bare ((chain_mem h).1 hV).2
theorem flat_one_keys {L : List Ver} (h : OrdK L) : (keysV L).flatMap (fun k => (oneV L k).map (keyed k)) = L := by
  conv => rhs; rw [← flat_keys h]
  congr 1
  funext k
  exact keyed_one h k
theorem flat_sum {α β : Type} (f : α → List β) (n : Nat) : ∀ (l : List α), (∀ x ∈ l, (f x).length ≤ n) → (l.flatMap f).length ≤ l.length * n
  | [], _ => by simp
  | a :: r, h => by
    rw [List.flatMap_cons, List.length_append, List.length_cons, Nat.succ_mul]
    have := h a (by simp)
    have := flat_sum f n r (fun x hx => h x (by simp [hx]))
    omega
theorem sto_len {L : List Ver} (h : StoK L) : L.length ≤ (keysV L).length * 50 := by
  conv => lhs; rw [← flat_keys h.ord]
  exact flat_sum _ 50 _ (fun k _ => by rw [chain_len]; exact h.few k)
theorem one_nil {L : List Ver} (h : OrdK L) {k : List Int} : oneV L k ≠ [] ↔ k ∈ keysV L := by
  unfold oneV
  rw [keys_mem]
  constructor
  · intro hn
    cases hc : chainV L k with
    | nil => rw [hc] at hn; exact absurd rfl hn
    | cons X r =>
      have := (chain_mem h (k := k) (X := X)).1 (by rw [hc]; simp)
      exact ⟨X, this.1, this.2⟩
  · rintro ⟨V, hV, e⟩ hn
    have := (chain_mem h (k := k)).2 ⟨hV, e⟩
    rw [List.map_eq_nil_iff.1 hn] at this
    simp at this
/-- Sums over keys that have had their turn. -/
def turnN (f : List Int → Nat) (left : List Int → Bool) : List (List Int) → Nat
  | [] => 0
  | k :: r => (if left k = true then 0 else f k) + turnN f left r
theorem turn_none (f : List Int → Nat) (left : List Int → Bool) : ∀ (l : List (List Int)), (∀ k ∈ l, left k = true) → turnN f left l = 0
  | [], _ => rfl
  | k :: r, h => by
    unfold turnN
    rw [if_pos (h k (by simp)), turn_none f left r (fun x hx => h x (by simp [hx]))]
theorem turn_else (f : List Int → Nat) (left : List Int → Bool) (x : List Int) : ∀ (l : List (List Int)), x ∉ l → turnN f (fun z => left z && !decide (z = x)) l = turnN f left l
  | [], _ => rfl
  | k :: r, h => by
    unfold turnN
    have hk : k ≠ x := fun e => h (by simp [e])
    rw [turn_else f left x r (fun hx => h (by simp [hx]))]
    simp [hk]
theorem turn_step (f : List Int → Nat) (left : List Int → Bool) (x : List Int) (hl : left x = true) : ∀ (l : List (List Int)), l.Nodup → x ∈ l → turnN f (fun z => left z && !decide (z = x)) l = turnN f left l + f x
  | [], _, h => by simp at h
  | k :: r, hn, h => by
    obtain ⟨h1, h2⟩ := List.nodup_cons.1 hn
    unfold turnN
    by_cases hk : k = x
    · subst hk
      rw [turn_else f left k r h1]
      simp [hl]
      omega
    · have hx : x ∈ r := by
        rcases List.mem_cons.1 h with e | e
        · exact absurd e.symm hk
        · exact e
      rw [turn_step f left x hl r h2 hx]
      simp [hk]
      omega
theorem turn_all (f : List Int → Nat) (left : List Int → Bool) : ∀ (l : List (List Int)), (∀ k ∈ l, left k = false) → turnN f left l = (l.map f).sum
  | [], _ => rfl
  | k :: r, h => by
    unfold turnN
    rw [turn_all f left r (fun x hx => h x (by simp [hx])), h k (by simp)]
    simp
theorem turn_le (f : List Int → Nat) (left : List Int → Bool) (n : Nat) : ∀ (l : List (List Int)), (∀ k ∈ l, f k ≤ n) → turnN f left l ≤ l.length * n
  | [], _ => by simp [turnN]
  | k :: r, h => by
    unfold turnN
    have := turn_le f left n r (fun x hx => h x (by simp [hx]))
    have := h k (by simp)
    rw [List.length_cons, Nat.succ_mul]
    split <;> omega
theorem sum_flat {α β : Type} (f : α → List β) : ∀ (l : List α), (l.flatMap f).length = (l.map (fun x => (f x).length)).sum
  | [] => rfl
  | a :: r => by rw [List.flatMap_cons, List.length_append, sum_flat f r, List.map_cons, List.sum_cons]
theorem sum_le {α : Type} (f g : α → Nat) : ∀ (l : List α), (∀ x ∈ l, g x ≤ f x) → (l.map (fun x => f x - g x)).sum + (l.map g).sum = (l.map f).sum
  | [], _ => rfl
  | a :: r, h => by
    have := sum_le f g r (fun x hx => h x (by simp [hx]))
    have := h a (by simp)
    simp only [List.map_cons, List.sum_cons]
    omega
theorem rest_len_le (L : List Ver) (t n : Int) : (restV L t n).length ≤ L.length := List.length_filter_le _ _
theorem rest_flat {L : List Ver} (h : OrdK L) (t n : Int) : (restV L t n).length = ((keysV L).map (fun k => (restV (oneV L k) t n).length)).sum := by
  have e : (keysV L).flatMap (chainV (restV L t n)) = restV L t n := by
    refine ord_ext ?_ (ord_rest h t n) (fun X => ?_)
    · unfold OrdK
      rw [List.pairwise_flatMap]
      refine ⟨fun k _ => ?_, ?_⟩
      · rw [chain_filter (ord_rest h t n)]
        exact List.Pairwise.filter _ (ord_rest h t n)
      · refine List.Pairwise.imp ?_ (keys_up h)
        intro a b hab X hX Y hY
        rw [chain_mem (ord_rest h t n)] at hX hY
        exact .inl (by rw [hX.2, hY.2]; exact hab)
    · rw [List.mem_flatMap]
      constructor
      · rintro ⟨k, _, hX⟩
        exact ((chain_mem (ord_rest h t n)).1 hX).1
      · intro hX
        exact ⟨X.k, (keys_mem L X.k).2 ⟨X, (List.mem_filter.1 hX).1, rfl⟩, (chain_mem (ord_rest h t n)).2 ⟨hX, rfl⟩⟩
  conv => lhs; rw [← e]
  rw [sum_flat]
  congr 1
  refine List.map_congr_left (fun k _ => ?_)
  rw [← rest_own h, one_len, chain_len]
/-- How many a trim lets go, key by key. -/
theorem trim_sum {L : List Ver} (h : OrdK L) (t n : Int) : ((keysV L).map (fun k => (oneV L k).length - (restV (oneV L k) t n).length)).sum + (restV L t n).length = L.length := by
  rw [rest_flat h]
  have e : L.length = ((keysV L).map (fun k => (oneV L k).length)).sum := by
    conv => lhs; rw [← flat_one_keys h]
    rw [sum_flat]
    simp
  rw [e]
  exact sum_le _ _ _ (fun k _ => rest_len_le _ t n)
/-- Is one of the writes' keys written at that stamp; is one of the chains full; how many are to keys that are not there? -/
def anyWr (L : List Ver) (t n : Int) (l : List Wrt) : Bool := l.any (fun W => clashV L (verW t n W))
def anyFu (L : List Ver) (l : List Wrt) : Bool := l.any (fun W => decide (50 ≤ kMany L W.k))
def newW (L : List Ver) (l : List Wrt) : Nat := (l.filter (fun W => !decide (W.k ∈ keysV L))).length
def putsW (t n : Int) (l : List Wrt) (L : List Ver) : List Ver := l.foldl (fun L W => (putV L (verW t n W)).2) L
theorem clash_else {L : List Ver} (h : OrdK L) (V W : Ver) (hk : W.k ≠ V.k) : clashV (putV L V).2 W = clashV L W := by
  rw [← one_clash2 (putV L V).2 W, ← one_clash2 L W, put_other h V W.k hk]
theorem many_else {L : List Ver} (h : OrdK L) (V : Ver) {k : List Int} (hk : k ≠ V.k) : kMany (putV L V).2 k = kMany L k := by
  rw [← one_len, ← one_len, put_other h V k hk]
theorem put_code_is {L : List Ver} {V : Ver} (hm : mayV V = true) : (putV L V).1 = if clashV L V = true then 5 else if 50 ≤ kMany L V.k then 6 else 0 := by
  unfold putV
  rw [if_neg (by simp [hm])]
  split
  · rfl
  · split <;> rfl
theorem any_congr {α : Type} {p q : α → Bool} : ∀ {l : List α}, (∀ x ∈ l, p x = q x) → l.any p = l.any q
  | [], _ => rfl
  | a :: r, h => by rw [List.any_cons, List.any_cons, h a (by simp), any_congr (fun x hx => h x (by simp [hx]))]
theorem run_is {t n : Int} : ∀ (l : List Wrt) (L : List Ver) (f : Bool), OrdK L → (∀ W ∈ l, mayV (verW t n W) = true) → l.Pairwise (fun A B => A.k ≠ B.k) →
    (anyWr L t n l = true → (runW t n l L f).1 = 5) ∧ (anyWr L t n l = false → (runW t n l L f).1 = 0 ∧ (runW t n l L f).2.1 = putsW t n l L ∧ (runW t n l L f).2.2 = (f || anyFu L l))
  | [], L, f, h, hm, hd => ⟨fun e => by simp [anyWr] at e, fun _ => ⟨rfl, rfl, by simp [anyFu, runW]⟩⟩
  | W :: r, L, f, h, hm, hd => by
    obtain ⟨d1, d2⟩ := List.pairwise_cons.1 hd
    have hc := put_code_is (L := L) (hm W (by simp))
    obtain ⟨i1, i2⟩ := run_is r (putV L (verW t n W)).2 (f || decide ((putV L (verW t n W)).1 ≠ 0)) (ord_put h _) (fun X hX => hm X (by simp [hX])) d2
    have e1 : anyWr (putV L (verW t n W)).2 t n r = anyWr L t n r := any_congr (fun X hX => clash_else h _ _ (Ne.symm (d1 X hX)))
    have e2 : anyFu (putV L (verW t n W)).2 r = anyFu L r := any_congr (fun X hX => by rw [many_else h _ (Ne.symm (d1 X hX))])
    rw [e1] at i1 i2
    rw [e2] at i2
    have e3 : anyWr L t n (W :: r) = (clashV L (verW t n W) || anyWr L t n r) := rfl
    have e4 : anyFu L (W :: r) = (decide (50 ≤ kMany L W.k) || anyFu L r) := rfl
    rw [run_step, e3, e4]
    cases hcl : clashV L (verW t n W) with
    | true =>
      rw [hcl, if_pos rfl] at hc
      rw [if_pos hc]
      exact ⟨fun _ => rfl, fun e => by simp at e⟩
    | false =>
      rw [hcl, if_neg (by simp)] at hc
      have hne : (putV L (verW t n W)).1 ≠ 5 := by rw [hc]; split <;> decide
      rw [if_neg hne, Bool.false_or]
      refine ⟨i1, fun e => ?_⟩
      obtain ⟨j1, j2, j3⟩ := i2 e
      refine ⟨j1, j2, ?_⟩
      rw [j3, Bool.or_assoc]
      congr 2
      have hk : (verW t n W).k = W.k := rfl
      rw [hc, hk]
      by_cases h50 : 50 ≤ kMany L W.k
      · simp [h50]
      · simp [h50]
theorem keys_put {L : List Ver} (h : OrdK L) {V : Ver} (h0 : (putV L V).1 = 0) : (keysV (putV L V).2).length = (keysV L).length + (if V.k ∈ keysV L then 0 else 1) ∧ ∀ k, k ∈ keysV (putV L V).2 ↔ k = V.k ∨ k ∈ keysV L := by
  have hmem : ∀ k, k ∈ keysV (putV L V).2 ↔ k = V.k ∨ k ∈ keysV L := fun k => by
    rw [keys_mem, keys_mem]
    have hX : ∀ X, X ∈ (putV L V).2 ↔ X = V ∨ X ∈ L := fun X => by
      unfold putV at h0 ⊢
      by_cases h1 : mayV V = false
      · rw [if_pos h1] at h0; cases h0
      · rw [if_neg h1] at h0 ⊢
        by_cases h2 : clashV L V = true
        · rw [if_pos h2] at h0; cases h0
        · rw [if_neg h2] at h0 ⊢
          by_cases h3 : 50 ≤ kMany L V.k
          · rw [if_pos h3] at h0; cases h0
          · rw [if_neg h3]
            exact mem_ins _
    constructor
    · rintro ⟨X, hm, e⟩
      rcases (hX X).1 hm with rfl | hm
      · exact .inl e.symm
      · exact .inr ⟨X, hm, e⟩
    · rintro (rfl | ⟨X, hm, e⟩)
      · exact ⟨V, (hX V).2 (.inl rfl), rfl⟩
      · exact ⟨X, (hX X).2 (.inr hm), e⟩
  refine ⟨?_, hmem⟩
  by_cases hk : V.k ∈ keysV L
  · rw [if_pos hk]
    refine len_eq_of_same (keys_nodup (ord_put h V)) (keys_nodup h) (fun k => ?_)
    rw [hmem]
    constructor
    · rintro (rfl | e)
      · exact hk
      · exact e
    · exact .inr
  · rw [if_neg hk]
    have := len_eq_of_same (m := V.k :: keysV L) (keys_nodup (ord_put h V)) (List.nodup_cons.2 ⟨hk, keys_nodup h⟩) (fun k => by rw [hmem, List.mem_cons])
    simpa using this
theorem keys_puts {t n : Int} : ∀ (l : List Wrt) (L : List Ver), OrdK L → (∀ W ∈ l, mayV (verW t n W) = true) → l.Pairwise (fun A B => A.k ≠ B.k) → anyWr L t n l = false → anyFu L l = false → (keysV (putsW t n l L)).length = (keysV L).length + newW L l
  | [], L, _, _, _, _, _ => rfl
  | W :: r, L, h, hm, hd, hw, hf => by
    obtain ⟨d1, d2⟩ := List.pairwise_cons.1 hd
    have hc := put_code_is (L := L) (hm W (by simp))
    have e3 : anyWr L t n (W :: r) = (clashV L (verW t n W) || anyWr L t n r) := rfl
    have e4 : anyFu L (W :: r) = (decide (50 ≤ kMany L W.k) || anyFu L r) := rfl
    rw [e3, Bool.or_eq_false_iff] at hw
    rw [e4, Bool.or_eq_false_iff] at hf
    have h0 : (putV L (verW t n W)).1 = 0 := by
      have h50 : ¬ 50 ≤ kMany L (verW t n W).k := of_decide_eq_false hf.1
      rw [hc, if_neg (by rw [hw.1]; simp), if_neg h50]
    obtain ⟨k1, k2⟩ := keys_put h h0
    have hk : (verW t n W).k = W.k := rfl
    rw [hk] at k1 k2
    have ih := keys_puts r (putV L (verW t n W)).2 (ord_put h _) (fun X hX => hm X (by simp [hX])) d2 ((any_congr (fun X hX => clash_else h _ _ (Ne.symm (d1 X hX)))).trans hw.2) ((any_congr (fun X hX => by rw [many_else h _ (Ne.symm (d1 X hX))])).trans hf.2)
    have e5 : newW (putV L (verW t n W)).2 r = newW L r := by
      unfold newW
      congr 1
      refine List.filter_congr (fun X hX => ?_)
      have : X.k ∈ keysV (putV L (verW t n W)).2 ↔ X.k ∈ keysV L := by
        rw [k2]
        exact ⟨fun e => e.resolve_left (Ne.symm (d1 X hX)), .inr⟩
      simp [this]
    show (keysV (putsW t n r (putV L (verW t n W)).2)).length = _
    rw [ih, k1, e5]
    unfold newW
    rw [List.filter_cons]
    by_cases hin : W.k ∈ keysV L
    · simp [hin]
    · simp [hin]; omega
theorem may_w {l : List Wrt} {t n : Int} (h1 : okS t) (h2 : mayW l 1 = true) : (∀ W ∈ l, mayV (verW t n W) = true) ∧ l.Pairwise (fun A B => A.k ≠ B.k) ∧ (∀ W ∈ l, goodK W.k = true) ∧ 1 ≤ l.length ∧ l.length ≤ 16 := by
  unfold mayW at h2
  simp only [Bool.and_eq_true, decide_eq_true_eq, List.all_eq_true] at h2
  refine ⟨fun W hW => ?_, h2.2, fun W hW => (h2.1.2 W hW).1.1, h2.1.1.1, h2.1.1.2⟩
  have := h2.1.2 W hW
  unfold mayV verW
  simp only [Bool.and_eq_true, decide_eq_true_eq]
  exact ⟨⟨h1, this.1.2⟩, this.2⟩
/-- Apply, as a store that looks first does it. -/
theorem apply_is {L : List Ver} (h : OrdK L) (t n : Int) (l : List Wrt) : applyV L t n l =
    if (decide (okS t) && mayW l 1) = false then (1, L) else if anyWr L t n l = true then (5, L) else if (anyFu L l || decide (200 < (keysV L).length + newW L l)) = true then (6, L) else (0, putsW t n l L) := by
  unfold applyV
  by_cases h1 : (decide (okS t) && mayW l 1) = false
  · rw [if_pos h1, if_pos h1]
  · rw [if_neg h1, if_neg h1]
    have hm : okS t ∧ mayW l 1 = true := by
      rw [Bool.not_eq_false, Bool.and_eq_true, decide_eq_true_eq] at h1
      exact h1
    obtain ⟨m1, m2, _⟩ := may_w (n := n) hm.1 hm.2
    obtain ⟨r1, r2⟩ := run_is (t := t) (n := n) l L false h m1 m2
    cases hw : anyWr L t n l with
    | true => rw [if_pos (r1 hw), if_pos rfl]
    | false =>
      obtain ⟨j1, j2, j3⟩ := r2 hw
      rw [if_neg (show ¬ (runW t n l L false).1 = 5 by rw [j1]; decide), if_neg (show ¬ false = true by simp), j2, j3, Bool.false_or]
      cases hf : anyFu L l with
      | true => rw [Bool.true_or, Bool.true_or, if_pos rfl]
      | false => rw [keys_puts l L h m1 m2 hw hf]
/-- What a store is, its keys too. -/
structure StoG (L : List Ver) : Prop where
  sto : StoK L
  kys : ∀ V ∈ L, Ky V.k
  few : (keysV L).length ≤ 200
theorem StoG.nil : StoG [] := ⟨StoK.nil, fun V h => by simp at h, by simp [keysV]⟩
theorem StoG.keys {L : List Ver} (h : StoG L) : Kys (keysV L) := fun k hk => by
  obtain ⟨V, hV, e⟩ := (keys_mem L k).1 hk
  rw [← e]
  exact h.kys V hV
theorem puts_sto {t n : Int} (hn : 0 ≤ n ∧ n ≤ 255) : ∀ (l : List Wrt) (L : List Ver), StoK L → (∀ V ∈ L, Ky V.k) → (∀ W ∈ l, Ky W.k ∧ ∀ z ∈ W.v, 0 ≤ z ∧ z ≤ 255) → StoK (putsW t n l L) ∧ ∀ V ∈ putsW t n l L, Ky V.k
  | [], L, h, hk, _ => ⟨h, hk⟩
  | W :: r, L, h, hk, hw => by
    refine puts_sto hn r (putV L (verW t n W)).2 (h.put ⟨hn.1, hn.2, (hw W (by simp)).2⟩) (fun V hV => ?_) (fun X hX => hw X (by simp [hX]))
    rcases mem_put hV with e | ⟨rfl, _⟩
    · exact hk V e
    · exact (hw W (by simp)).1
theorem StoG.apply {L : List Ver} (h : StoG L) {t n : Int} (hn : 0 ≤ n ∧ n ≤ 255) {l : List Wrt} (hl : ∀ W ∈ l, Ky W.k ∧ ∀ z ∈ W.v, 0 ≤ z ∧ z ≤ 255) : StoG (applyV L t n l).2 := by
  by_cases h0 : (applyV L t n l).1 = 0
  · obtain ⟨e, e1, e2, e3, e4, e5⟩ := apply_ok h0
    obtain ⟨m1, m2, _⟩ := may_w (n := n) e3 e4
    obtain ⟨r1, r2⟩ := run_is (t := t) (n := n) l L false h.sto.ord m1 m2
    have hw : anyWr L t n l = false := by
      cases hw : anyWr L t n l with
      | true => exact absurd (r1 hw) e1
      | false => rfl
    obtain ⟨_, j2, _⟩ := r2 hw
    rw [e, j2]
    rw [j2] at e5
    obtain ⟨p1, p2⟩ := puts_sto (t := t) hn l L h.sto h.kys hl
    exact ⟨p1, p2, e5⟩
  · rw [apply_bad h0]
    exact h
theorem keys_rest_le {L : List Ver} (h : OrdK L) (t n : Int) : (keysV (restV L t n)).length ≤ (keysV L).length :=
  len_le_of_sub (keys_nodup (ord_rest h t n)) (fun k hk => by
    obtain ⟨V, hV, e⟩ := (keys_mem _ k).1 hk
    exact (keys_mem L k).2 ⟨V, (List.mem_filter.1 hV).1, e⟩)
theorem StoG.rest {L : List Ver} (h : StoG L) (t n : Int) : StoG (restV L t n) :=
  ⟨h.sto.rest t n, fun V hV => h.kys V (List.mem_filter.1 hV).1, Nat.le_trans (keys_rest_le h.sto.ord t n) h.few⟩
theorem StoG.len {L : List Ver} (h : StoG L) : L.length ≤ 10000 := by
  have := sto_len h.sto
  have := h.few
  omega
/-- The chain at a key is not empty just if the key is there; no key but those of sixteen bytes is there. -/
theorem StoG.none {L : List Ver} (h : StoG L) {k : List Int} (hk : ¬ Ky k) : oneV L k = [] := by
  cases he : oneV L k with
  | nil => rfl
  | cons X r =>
    have : k ∈ keysV L := (one_nil h.sto.ord).1 (by rw [he]; simp)
    exact absurd (h.keys k this) hk
end Go.Proofs.YtileidbdmpeciaaGreat

namespace Go.Proofs.YtileidbdmpeciaaGreat
set_option linter.unusedVariables false

/-- An entry: its number, its snapshot, its stamp, its writes. -/
structure Ent where
  id : Int
  s : Int
  m : Int
  t : Int
  n : Int
  l : List Wrt
def goodE (e : Ent) : Bool := decide (1 ≤ e.id) && decide (okS e.s) && decide (okS e.t) && decide (0 < cmpS e.t e.n e.s e.m) && mayW e.l 1
def hasK (e : Ent) (k : List Int) : Bool := e.l.any (fun W => decide (W.k = k))
def holdT (L : List Ent) (k : List Int) : Option Ent := L.find? (fun e => hasK e k)
def blocksT (L : List Ent) (k : List Int) (t n : Int) : Option Int := match holdT L k with
  | none => none
  | some e => if 0 < cmpS e.t e.n t n then none else some e.id
def hasT (L : List Ent) (id : Int) : Option Ent := L.find? (fun e => decide (e.id = id))
def dropT (L : List Ent) (id : Int) : List Ent := L.filter (fun e => decide (e.id ≠ id))
def heldT (L : List Ent) (l : List Wrt) : Bool := l.any (fun W => (holdT L W.k).isSome)
def placeT (L : List Ent) (id : Int) : Nat := (L.takeWhile (fun e => decide (e.id < id))).length
def addT (L : List Ent) (e : Ent) : Int × List Ent :=
  if goodE e = false then (1, L) else if (hasT L e.id).isSome = true then (5, L) else if heldT L e.l = true then (9, L) else if 100 ≤ L.length then (6, L) else (0, L.take (placeT L e.id) ++ e :: L.drop (placeT L e.id))
/-- What a table is: by numbers, rising; each entry may be; no two hold one key. -/
structure TabK (L : List Ent) : Prop where
  up : L.Pairwise (fun a b => a.id < b.id)
  good : ∀ e ∈ L, goodE e = true
  apart : L.Pairwise (fun a b => ∀ k, ¬ (hasK a k = true ∧ hasK b k = true))
  few : L.length ≤ 100
theorem TabK.nil : TabK [] := ⟨.nil, fun e h => by simp at h, .nil, by simp⟩
theorem TabK.drop {L : List Ent} (h : TabK L) (id : Int) : TabK (dropT L id) :=
  ⟨h.up.filter _, fun e he => h.good e (List.mem_filter.1 he).1, h.apart.filter _, Nat.le_trans (List.length_filter_le _ _) h.few⟩
theorem place_le (L : List Ent) (id : Int) : placeT L id ≤ L.length := List.Sublist.length_le (List.takeWhile_sublist _)
theorem place_lt {L : List Ent} {id : Int} {i : Nat} {e : Ent} (hi : i < placeT L id) (he : L[i]? = some e) : e.id < id := by
  unfold placeT at hi
  induction L generalizing i with
  | nil => simp at he
  | cons x r ih =>
    by_cases hx : x.id < id
    · rw [List.takeWhile_cons_of_pos (by simpa using hx)] at hi
      cases i with
      | zero => simp at he; rw [← he]; exact hx
      | succ j => exact ih (by simpa using hi) (by simpa using he)
    · rw [List.takeWhile_cons_of_neg (by simpa using hx)] at hi
      simp at hi
theorem place_ge {L : List Ent} (h : L.Pairwise (fun a b => a.id < b.id)) {id : Int} {i : Nat} {e : Ent} (hi : placeT L id ≤ i) (he : L[i]? = some e) : id ≤ e.id := by
  unfold placeT at hi
  induction L generalizing i with
  | nil => simp at he
  | cons x r ih =>
    obtain ⟨h1, h2⟩ := List.pairwise_cons.1 h
    by_cases hx : x.id < id
    · rw [List.takeWhile_cons_of_pos (by simpa using hx)] at hi
      cases i with
      | zero => simp at hi
      | succ j => exact ih h2 (by simpa using hi) (by simpa using he)
    · cases i with
      | zero => simp at he; rw [← he]; omega
      | succ j =>
        have := h1 e (List.mem_of_getElem? (by simpa using he))
        omega
theorem place_is {L : List Ent} {id : Int} {i : Nat} (hi : i ≤ L.length) (h : ∀ j e, j < i → L[j]? = some e → e.id < id) (hx : i = L.length ∨ ∃ e, L[i]? = some e ∧ ¬ e.id < id) : placeT L id = i :=
  tw_len hi (fun j V hj hV => decide_eq_true (h j V hj hV)) (hx.imp (fun h => h) (fun ⟨e, h1, h2⟩ => ⟨e, h1, decide_eq_false h2⟩))
theorem has_none {L : List Ent} {id : Int} (h : (hasT L id).isSome = false) : ∀ e ∈ L, e.id ≠ id := fun e he hid => by
  unfold hasT at h
  rw [Option.isSome_eq_false_iff, Option.isNone_iff_eq_none, List.find?_eq_none] at h
  have := h e he
  simp at this
  exact this hid
theorem held_none {L : List Ent} {l : List Wrt} (h : heldT L l = false) : ∀ e ∈ L, ∀ W ∈ l, hasK e W.k = false := fun e he W hW => by
  unfold heldT at h
  have h1 := List.any_eq_false.1 h W hW
  unfold holdT at h1
  simp only [Bool.not_eq_true, Option.isSome_eq_false_iff, Option.isNone_iff_eq_none, List.find?_eq_none] at h1
  simpa using h1 e he
theorem TabK.add {L : List Ent} (h : TabK L) (e : Ent) : TabK (addT L e).2 := by
  unfold addT
  by_cases h1 : goodE e = false
  · rw [if_pos h1]; exact h
  · rw [if_neg h1]
    by_cases h2 : (hasT L e.id).isSome = true
    · rw [if_pos h2]; exact h
    · rw [if_neg h2]
      by_cases h3 : heldT L e.l = true
      · rw [if_pos h3]; exact h
      · rw [if_neg h3]
        by_cases h4 : 100 ≤ L.length
        · rw [if_pos h4]; exact h
        · rw [if_neg h4]
          have hn := has_none (L := L) (id := e.id) (by simpa using h2)
          have hh := held_none (L := L) (l := e.l) (by simpa using h3)
          have hsub : ∀ x, x ∈ L.take (placeT L e.id) → x ∈ L := fun x hx => List.mem_of_mem_take hx
          have hsub2 : ∀ x, x ∈ L.drop (placeT L e.id) → x ∈ L := fun x hx => List.mem_of_mem_drop hx
          have hlt : ∀ x ∈ L.take (placeT L e.id), x.id < e.id := fun x hx => by
            obtain ⟨j, hj, rfl⟩ := List.mem_iff_getElem.1 hx
            rw [List.length_take] at hj
            rw [List.getElem_take]
            exact place_lt (L := L) (i := j) (by omega) (List.getElem?_eq_getElem (by omega))
          have hgt : ∀ x ∈ L.drop (placeT L e.id), e.id < x.id := fun x hx => by
            obtain ⟨j, hj, rfl⟩ := List.mem_iff_getElem.1 hx
            rw [List.length_drop] at hj
            have h8 := place_ge h.up (id := e.id) (i := placeT L e.id + j) (by omega) (List.getElem?_eq_getElem (by omega))
            rw [List.getElem_drop]
            have h9 := hn _ (List.getElem_mem (l := L) (n := placeT L e.id + j) (by omega))
            omega
          have hno : ∀ x ∈ L, ∀ k, ¬ (hasK x k = true ∧ hasK e k = true) := fun x hx k hk => by
            obtain ⟨W, hW, hWk⟩ := List.any_eq_true.1 hk.2
            have := hh x hx W hW
            rw [of_decide_eq_true hWk, hk.1] at this
            cases this
          have hup := h.up
          have hap := h.apart
          rw [← List.take_append_drop (placeT L e.id) L] at hup hap
          obtain ⟨u1, u2, u3⟩ := List.pairwise_append.1 hup
          obtain ⟨a1, a2, a3⟩ := List.pairwise_append.1 hap
          refine ⟨List.pairwise_append.2 ⟨u1, List.pairwise_cons.2 ⟨hgt, u2⟩, fun a ha b hb => ?_⟩, fun x hx => ?_, List.pairwise_append.2 ⟨a1, List.pairwise_cons.2 ⟨fun x hx k hk => hno x (hsub2 x hx) k ⟨hk.2, hk.1⟩, a2⟩, fun a ha b hb => ?_⟩, ?_⟩
          · rcases List.mem_cons.1 hb with rfl | hb
            · exact hlt a ha
            · exact u3 a ha b hb
          · rcases List.mem_append.1 hx with hx | hx
            · exact h.good x (hsub x hx)
            · rcases List.mem_cons.1 hx with rfl | hx
              · simpa using h1
              · exact h.good x (hsub2 x hx)
          · rcases List.mem_cons.1 hb with rfl | hb
            · exact hno a (hsub a ha)
            · exact a3 a ha b hb
          · simp only [List.length_append, List.length_take, List.length_cons, List.length_drop]
            omega
/-- Who holds a key that one of them has is that one. -/
theorem TabK.holder {L : List Ent} (h : TabK L) {e : Ent} (he : e ∈ L) {k : List Int} (hk : hasK e k = true) : holdT L k = some e := by
  unfold holdT
  cases hf : L.find? (fun e => hasK e k) with
  | none => exact absurd hk (by simpa using List.find?_eq_none.1 hf e he)
  | some x =>
    have hx := List.mem_of_find?_eq_some hf
    have hxk : hasK x k = true := List.find?_some (p := fun e => hasK e k) hf
    by_cases hxe : x = e
    · rw [hxe]
    · exfalso
      obtain ⟨i, hi, rfl⟩ := List.mem_iff_getElem.1 hx
      obtain ⟨j, hj, rfl⟩ := List.mem_iff_getElem.1 he
      rcases Nat.lt_trichotomy i j with hij | hij | hij
      · exact List.pairwise_iff_getElem.1 h.apart i j hi hj hij k ⟨hxk, hk⟩
      · subst hij; exact hxe rfl
      · exact List.pairwise_iff_getElem.1 h.apart j i hj hi hij k ⟨hk, hxk⟩
end Go.Proofs.YtileidbdmpeciaaGreat

namespace Go.Proofs.YtileidbdmpeciaaGreat.Pl
open Go Go.RowKit

/-! ### Folded signs -/
/-! ### Cut bits -/
/-! ### Numbers in groups of seven bits -/
def putF : Nat → Int → List Int
  | 0, v => [v]
  | f + 1, v => if v < 128 then [v] else (v % 128 + 128) :: putF f (v / 128)
def Fits (f : Nat) (x : Int) : Prop := 0 ≤ x ∧ x < 2 * 128 ^ f
theorem put_last {f : Nat} {x : Int} (h : x < 128) : putF f x = [x] := by
  cases f with
  | zero => rfl
  | succ f => simp [putF, h]
def goodB (c i : Int) : Bool := !(decide (0 < i) && c == 0) && (decide (i < 9) || c == 1)
def getF : Nat → Int → Nat → List Int → Int × Int × Int
  | 0, _, _, _ => (0, 0, 3)
  | _ + 1, _, _, [] => (0, 0, 3)
  | f + 1, X, k, c :: r => if c < 128 then (if goodB c k = true then (X + c * 2 ^ (7 * k), (k : Int) + 1, 0) else (0, 0, 3)) else getF f (X + c % 128 * 2 ^ (7 * k)) (k + 1) r
def getI (zs : List Int) : Int × Int × Int := getF 10 0 0 zs
end Go.Proofs.YtileidbdmpeciaaGreat.Pl

namespace Go.Proofs.YtileidbdmpeciaaGreat
set_option linter.unusedVariables false

/-! ### Reading -/
/-- A way to read: what is read, and what is left behind it. -/
abbrev Pr (α : Type) := List Int → Option (α × List Int)
def seqP {α β : Type} (p : Pr α) (f : α → Pr β) : Pr β := fun zs => match p zs with
  | none => none
  | some (a, r) => f a r
def retP {α : Type} (a : α) : Pr α := fun zs => some (a, zs)
def noneP {α : Type} : Pr α := fun _ => none
theorem seq_some {α β : Type} {p : Pr α} {f : α → Pr β} {zs r : List Int} {a : α} (h : p zs = some (a, r)) : seqP p f zs = f a r := by unfold seqP; rw [h]
theorem seq_none {α β : Type} {p : Pr α} {f : α → Pr β} {zs : List Int} (h : p zs = none) : seqP p f zs = none := by unfold seqP; rw [h]
/-- More behind is left where it is. -/
def Ext {α : Type} (p : Pr α) : Prop := ∀ zs a r m, p zs = some (a, r) → p (zs ++ m) = some (a, r ++ m)
theorem Ext.seq {α β : Type} {p : Pr α} {f : α → Pr β} (hp : Ext p) (hf : ∀ a, Ext (f a)) : Ext (seqP p f) := by
  intro zs b r m h
  cases e : p zs with
  | none => rw [seq_none e] at h; simp at h
  | some x =>
    obtain ⟨a, s⟩ := x
    rw [seq_some e] at h
    rw [seq_some (hp _ _ _ m e)]
    exact hf a _ _ _ m h
theorem Ext.ret {α : Type} (a : α) : Ext (retP a) := by
  intro zs b r m h
  simp [retP] at h
  obtain ⟨rfl, rfl⟩ := h
  rfl
theorem Ext.no {α : Type} : Ext (noneP (α := α)) := by intro zs b r m h; simp [noneP] at h

/-- A number. -/
def numP : Pr Int := fun zs => if (Pl.getI zs).2.2 = 0 then some ((Pl.getI zs).1, zs.drop (Pl.getI zs).2.1.toNat) else none
def byteP : Pr Int := fun zs => match zs with
  | [] => none
  | c :: r => some (c, r)
def bytesP (n : Int) : Pr (List Int) := fun zs => if (zs.length : Int) < n then none else some (zs.take n.toNat, zs.drop n.toNat)
def boolP : Pr Bool := seqP byteP fun c => if 1 < c then noneP else retP (decide (c = 1))
def stampP : Pr (Int × Int) := seqP numP fun v => if v < 9223372036854775808 then retP (v / 256, v % 256) else noneP
def countP (most : Int) : Pr Int := seqP numP fun v => if most < v then noneP else retP v
def textP : Pr (List Int) := seqP numP fun n => bytesP n
def writeP : Pr Wrt := seqP (bytesP 16) fun k => seqP boolP fun g => seqP textP fun v => retP ⟨k, v, g⟩
def manyP {α : Type} (p : Pr α) : Nat → Pr (List α)
  | 0 => retP []
  | n + 1 => seqP p fun a => seqP (manyP p n) fun l => retP (a :: l)
/-- A record. -/
structure Rcd where
  kd : Int
  id : Int
  s : Int
  m : Int
  t : Int
  n : Int
  l : List Wrt
  y : Bool
  ps : List Int
def upP : Int → List Int → Bool
  | _, [] => true
  | p, x :: r => decide (p < x ∧ 0 ≤ x ∧ x ≤ 7) && upP x r
def partsB (l : List Int) : Bool := upP (-1) l && decide (0 < l.length)
def plainR (r : Rcd) : Bool := decide (r.s = 0 ∧ r.m = 0) && decide (r.l.length = 0)
def bareR (r : Rcd) : Bool := plainR r && !r.y && decide (r.ps.length = 0)
def entR (r : Rcd) : Ent := ⟨r.id, r.s, r.m, r.t, r.n, r.l⟩
/-- May a record be? -/
def goodR (r : Rcd) : Bool :=
  if r.kd = 1 then goodE (entR r) && !r.y && decide (r.ps.length = 0)
  else if r.kd = 2 then decide (1 ≤ r.id) && bareR r && decide (okS r.t)
  else if r.kd = 3 then decide (1 ≤ r.id) && bareR r && decide (r.t = 0 ∧ r.n = 0)
  else if r.kd = 4 then decide (1 ≤ r.id) && plainR r && partsB r.ps && decide (okS r.t) && (r.y || decide (r.t = 0 ∧ r.n = 0))
  else if r.kd = 5 then decide (r.id = 0) && bareR r && decide (okS r.t) && decide (r.n = 0)
  else false
/-! ### Writing -/
/-! ### More behind -/
/-! ### What is written is read back -/
/-- What numbers and bytes a record may hold at all. -/
structure RcdOk (r : Rcd) : Prop where
  id0 : -9223372036854775808 ≤ r.id
  id1 : r.id ≤ 9223372036854775807
  m0 : 0 ≤ r.m
  m1 : r.m ≤ 255
  n0 : 0 ≤ r.n
  n1 : r.n ≤ 255
  keys : ∀ W ∈ r.l, Ky W.k
  vals : ∀ W ∈ r.l, ∀ z ∈ W.v, 0 ≤ z ∧ z ≤ 255
theorem list_none {α : Type} {l : List α} (h : l.length = 0) : l = [] := List.length_eq_zero_iff.1 h
end Go.Proofs.YtileidbdmpeciaaGreat

namespace Go.Proofs.YtileidbdmpeciaaGreat
set_option linter.unusedVariables false
set_option linter.unusedSimpArgs false

/-- Its store, its table, what is over (its number; 2: committed, 3: aborted). -/
structure PSt where
  S : List Ver
  T : List Ent
  O : List (Int × Int)
def overP (O : List (Int × Int)) (id : Int) : Option Int := (O.find? (fun x => decide (x.1 = id))).map (fun x => x.2)
def stateP (P : PSt) (id : Int) : Int := match overP P.O id with
  | some h => h
  | none => if (hasT P.T id).isSome = true then 1 else 0
def readP (P : PSt) (k : List Int) (t n now : Int) : Int × Option (List Int) :=
  if (goodK k && decide (okS t)) = false then (1, none) else if (decide (now < t) || (blocksT P.T k t n).isSome) = true then (8, none) else (0, getV P.S k t n)
def rangeB (T : List Ent) (a b : List Int) (t n : Int) : Bool := T.any (fun e => e.l.any (fun W => withinK W.k a b && decide (cmpS e.t e.n t n ≤ 0)))
def scanP (P : PSt) (a b : List Int) (t n now most : Int) : Int × List (List Int × List Int) :=
  if decide (okS t) = false then (1, []) else if (decide (now < t) || rangeB P.T a b t n) = true then (8, []) else (0, (scanV P.S a b t n).take most.toNat)
def newerV (S : List Ver) (k : List Int) (s m : Int) : Bool := match newestV S k with
  | none => false
  | some V => decide (0 < cmpS V.t V.n s m)
def confP (P : PSt) (e : Ent) : Bool := e.l.any (fun W => (holdT P.T W.k).isSome || newerV P.S W.k e.s e.m)
def keysE (e : Ent) : List (List Int) := e.l.map (fun W => W.k)
def keysT (T : List Ent) : List (List Int) := T.flatMap keysE
def fullP (P : PSt) (e : Ent) : Bool := e.l.any (fun W => decide (50 ≤ kMany P.S W.k)) || decide (200 < (sortK (keysV P.S ++ keysE e ++ keysT P.T)).length)
def prepP (P : PSt) (e : Ent) : Int × PSt :=
  if goodE e = false then (1, P) else if stateP P e.id ≠ 0 then (10, P) else if confP P e = true then (9, P) else if fullP P e = true then (6, P) else ((addT P.T e).1, { P with T := (addT P.T e).2 })
def commitP (P : PSt) (id t n : Int) : Int × PSt :=
  if decide (okS t) = false then (1, P) else if stateP P id = 2 then (0, P) else if stateP P id = 3 then (10, P) else match hasT P.T id with
    | none => (4, P)
    | some e => if cmpS t n e.t e.n < 0 then (1, P) else if (applyV P.S t n e.l).1 ≠ 0 then ((applyV P.S t n e.l).1, P) else (0, ⟨(applyV P.S t n e.l).2, dropT P.T id, P.O ++ [(id, 2)]⟩)
def abortP (P : PSt) (id : Int) : Int × PSt :=
  if id < 1 then (1, P) else if stateP P id = 2 then (10, P) else if stateP P id = 3 then (0, P) else (0, ⟨P.S, dropT P.T id, P.O ++ [(id, 3)]⟩)
def trimP (P : PSt) (t n : Int) : Int × PSt := ((P.S.length : Int) - ((restV P.S t n).length : Int), { P with S := restV P.S t n })
def entR' (r : Rcd) : Ent := ⟨r.id, r.s, r.m, r.t, r.n, r.l⟩
def playP (P : PSt) (r : Rcd) : Int × PSt :=
  if goodR r = false then (3, P) else if r.kd = 1 then prepP P (entR' r) else if r.kd = 2 then commitP P r.id r.t r.n else if r.kd = 3 then abortP P r.id else (0, P)

/-! ### What calls keep -/
structure PstK (P : PSt) : Prop where
  sto : StoG P.S
  tab : TabK P.T
  old : ∀ e ∈ P.T, ∀ W ∈ e.l, ∀ V ∈ P.S, V.k = W.k → ¬ ltS e.s e.m V.t V.n
  room : ∀ e ∈ P.T, ∀ W ∈ e.l, kMany P.S W.k < 50
  keys : ∃ U : List (List Int), (∀ k ∈ keysV P.S, k ∈ U) ∧ (∀ k ∈ keysT P.T, k ∈ U) ∧ U.length ≤ 200
  opn : ∀ e ∈ P.T, overP P.O e.id = none
  how : ∀ x ∈ P.O, x.2 = 2 ∨ x.2 = 3
  ok : ∀ e ∈ P.T, ∀ W ∈ e.l, Ky W.k ∧ ∀ z ∈ W.v, 0 ≤ z ∧ z ≤ 255
theorem PstK.nil : PstK ⟨[], [], []⟩ := ⟨StoG.nil, TabK.nil, fun e h => by simp at h, fun e h => by simp at h, ⟨[], by simp [keysV], by simp [keysT], by simp⟩, fun e h => by simp at h, fun x h => by simp at h, fun e h => by simp at h⟩
theorem over_app {O : List (Int × Int)} {id i h : Int} : overP (O ++ [(i, h)]) id = match overP O id with | some x => some x | none => if i = id then some h else none := by
  unfold overP
  rw [List.find?_append]
  cases e : O.find? (fun x => decide (x.1 = id)) with
  | some x => rfl
  | none =>
    by_cases h1 : i = id
    · simp [h1]
    · simp [h1]
theorem mem_add {L : List Ent} {e x : Ent} (h : x ∈ (addT L e).2) : x ∈ L ∨ (x = e ∧ (addT L e).1 = 0) := by
  unfold addT at h ⊢
  split at h
  · exact .inl h
  · rename_i h1
    rw [if_neg h1]
    split at h
    · exact .inl h
    · rename_i h2
      rw [if_neg h2]
      split at h
      · exact .inl h
      · rename_i h3
        rw [if_neg h3]
        split at h
        · exact .inl h
        · rename_i h4
          rw [if_neg h4]
          rcases List.mem_append.1 h with e1 | e1
          · exact .inl (List.mem_of_mem_take e1)
          · rcases List.mem_cons.1 e1 with e1 | e1
            · exact .inr ⟨e1, rfl⟩
            · exact .inl (List.mem_of_mem_drop e1)
theorem mem_drop_ {L : List Ent} {id : Int} {x : Ent} : x ∈ dropT L id ↔ x ∈ L ∧ x.id ≠ id := by
  unfold dropT
  rw [List.mem_filter, decide_eq_true_eq]
theorem not_newer {S : List Ver} (h : OrdK S) {k : List Int} {s m : Int} (hn : newerV S k s m = false) : ∀ V ∈ S, V.k = k → ¬ ltS s m V.t V.n := by
  intro V hV hk hlt
  have hc : V ∈ chainV S k := (chain_mem h).2 ⟨hV, hk⟩
  unfold newerV at hn
  cases e : newestV S k with
  | none =>
    unfold newestV at e
    rw [List.getLast?_eq_none_iff] at e
    rw [e] at hc
    simp at hc
  | some X =>
    rw [e] at hn
    have hx : ¬ 0 < cmpS X.t X.n s m := of_decide_eq_false hn
    unfold newestV at e
    obtain ⟨l, hl⟩ := List.getLast?_eq_some_iff.1 e
    have hu := ups_chain h k
    unfold oneV Ups at hu
    rw [List.pairwise_map, hl] at hu
    rw [hl] at hc
    rcases List.mem_append.1 hc with q | q
    · have h2 : ltV (bare V) (bare X) := (List.pairwise_append.1 hu).2.2 V q X (by simp)
      have h3 : ltS V.t V.n X.t X.n := h2
      exact hx (cmp_pos.2 (ltS_trans hlt h3))
    · rw [List.mem_singleton] at q
      rw [← q] at hx
      exact hx (cmp_pos.2 hlt)
theorem hasK_of {e : Ent} {W : Wrt} (h : W ∈ e.l) : hasK e W.k = true := List.any_eq_true.2 ⟨W, h, by simp⟩
theorem PstK.prep {P : PSt} (h : PstK P) (e : Ent) (hok : ∀ W ∈ e.l, Ky W.k ∧ ∀ z ∈ W.v, 0 ≤ z ∧ z ≤ 255) : PstK (prepP P e).2 := by
  unfold prepP
  by_cases h1 : goodE e = false
  · rw [if_pos h1]; exact h
  rw [if_neg h1]
  by_cases h2 : stateP P e.id ≠ 0
  · rw [if_pos h2]; exact h
  rw [if_neg h2]
  by_cases h3 : confP P e = true
  · rw [if_pos h3]; exact h
  rw [if_neg h3]
  by_cases h4 : fullP P e = true
  · rw [if_pos h4]; exact h
  rw [if_neg h4]
  have h3' : ∀ W ∈ e.l, (holdT P.T W.k).isSome = false ∧ newerV P.S W.k e.s e.m = false := fun W hW => by
    unfold confP at h3
    rw [Bool.not_eq_true, List.any_eq_false] at h3
    have := h3 W hW
    simpa using this
  unfold fullP at h4
  simp only [Bool.or_eq_true, not_or, Bool.not_eq_true, List.any_eq_false, decide_eq_true_eq] at h4
  refine ⟨h.sto, h.tab.add e, fun x hx W hW V hV hk => ?_, fun x hx W hW => ?_, ⟨sortK (keysV P.S ++ keysE e ++ keysT P.T), fun k hk => ?_, fun k hk => ?_, by have := h4.2; omega⟩, fun x hx => ?_, h.how, fun x hx => ?_⟩
  · rcases mem_add hx with hx | ⟨rfl, _⟩
    · exact h.old x hx W hW V hV hk
    · exact not_newer h.sto.sto.ord (h3' W hW).2 V hV hk
  · rcases mem_add hx with hx | ⟨rfl, _⟩
    · exact h.room x hx W hW
    · show kMany P.S W.k < 50
      have := h4.1 W hW
      omega
  · exact ((sortK_facts _).2.1 k).2 (List.mem_append_left _ (List.mem_append_left _ hk))
  · refine ((sortK_facts _).2.1 k).2 ?_
    obtain ⟨x, hx, hk2⟩ := List.mem_flatMap.1 hk
    rcases mem_add hx with hx | ⟨rfl, _⟩
    · exact List.mem_append_right _ (List.mem_flatMap.2 ⟨x, hx, hk2⟩)
    · exact List.mem_append_left _ (List.mem_append_right _ hk2)
  · rcases mem_add hx with hx | ⟨rfl, _⟩
    · exact h.opn x hx
    · rw [Decidable.not_not] at h2
      unfold stateP at h2
      cases e1 : overP P.O x.id with
      | none => rfl
      | some y =>
        rw [e1] at h2
        unfold overP at e1
        cases e2 : P.O.find? (fun z => decide (z.1 = x.id)) with
        | none => rw [e2] at e1; cases e1
        | some z =>
          rw [e2] at e1
          have h5 := h.how z (List.mem_of_find?_eq_some e2)
          injection e1 with e1
          have e3 : z.2 = y := e1
          rw [e3] at h5
          have h2' : y = 0 := h2
          omega
  · rcases mem_add hx with hx | ⟨rfl, _⟩
    · exact h.ok x hx
    · exact hok
/-- What Apply adds. -/
theorem puts_mem {t n : Int} : ∀ (l : List Wrt) (L : List Ver) (V : Ver), V ∈ putsW t n l L → V ∈ L ∨ ∃ W ∈ l, V = verW t n W
  | [], L, V, h => .inl h
  | W :: r, L, V, h => by
    rcases puts_mem r (putV L (verW t n W)).2 V h with e | ⟨X, hX, e⟩
    · rcases mem_put e with e | ⟨e, _⟩
      · exact .inl e
      · exact .inr ⟨W, by simp, e⟩
    · exact .inr ⟨X, by simp [hX], e⟩
theorem puts_other {t n : Int} {k : List Int} : ∀ (l : List Wrt) (L : List Ver), OrdK L → (∀ W ∈ l, W.k ≠ k) → oneV (putsW t n l L) k = oneV L k
  | [], L, _, _ => rfl
  | W :: r, L, ho, h => by
    show oneV (putsW t n r (putV L (verW t n W)).2) k = _
    rw [puts_other r _ (ord_put ho _) (fun X hX => h X (by simp [hX])), put_other ho (verW t n W) k (fun e => h W (by simp) e.symm)]
theorem apply_zero {L : List Ver} (h : OrdK L) {t n : Int} {l : List Wrt} (h0 : (applyV L t n l).1 = 0) : (applyV L t n l).2 = putsW t n l L ∧ okS t := by
  rw [apply_is h] at h0 ⊢
  by_cases h1 : (decide (okS t) && mayW l 1) = false
  · rw [if_pos h1] at h0; simp at h0
  rw [if_neg h1] at h0 ⊢
  by_cases h2 : anyWr L t n l = true
  · rw [if_pos h2] at h0; simp at h0
  rw [if_neg h2] at h0 ⊢
  by_cases h3 : (anyFu L l || decide (200 < (keysV L).length + newW L l)) = true
  · rw [if_pos h3] at h0; simp at h0
  rw [if_neg h3]
  simp only [Bool.not_eq_false, Bool.and_eq_true, decide_eq_true_eq] at h1
  exact ⟨rfl, h1.1⟩
theorem PstK.commit {P : PSt} (h : PstK P) (id t n : Int) (hn : 0 ≤ n ∧ n ≤ 255) : PstK (commitP P id t n).2 := by
  unfold commitP
  by_cases h1 : decide (okS t) = false
  · rw [if_pos h1]; exact h
  rw [if_neg h1]
  by_cases h2 : stateP P id = 2
  · rw [if_pos h2]; exact h
  rw [if_neg h2]
  by_cases h3 : stateP P id = 3
  · rw [if_pos h3]; exact h
  rw [if_neg h3]
  cases he : hasT P.T id with
  | none => exact h
  | some e =>
    simp only
    by_cases h4 : cmpS t n e.t e.n < 0
    · rw [if_pos h4]; exact h
    rw [if_neg h4]
    by_cases h5 : (applyV P.S t n e.l).1 ≠ 0
    · rw [if_pos h5]; exact h
    rw [if_neg h5]
    rw [Decidable.not_not] at h5
    have hem : e ∈ P.T := List.mem_of_find?_eq_some he
    have hid : e.id = id := of_decide_eq_true (List.find?_some (p := fun e : Ent => decide (e.id = id)) he)
    have ho := h.sto.sto.ord
    obtain ⟨ea, _⟩ := apply_zero ho h5
    have hap : ∀ x ∈ P.T, x.id ≠ id → ∀ W ∈ x.l, ∀ X ∈ e.l, X.k ≠ W.k := fun x hx hne W hW X hX ek => by
      have h6 := h.tab.holder hx (hasK_of hW)
      have h7 := h.tab.holder hem (hasK_of hX)
      rw [ek, h6] at h7
      injection h7 with h7
      exact hne (by rw [h7, hid])
    refine ⟨h.sto.apply hn (h.ok e hem), h.tab.drop id, fun x hx W hW V hV hk => ?_, fun x hx W hW => ?_, ?_, fun x hx => ?_, fun x hx => ?_, fun x hx => h.ok x (mem_drop_.1 hx).1⟩
    · obtain ⟨hx, hne⟩ := mem_drop_.1 hx
      have hV' : V ∈ putsW t n e.l P.S := by rw [← ea]; exact hV
      rcases puts_mem e.l P.S V hV' with q | ⟨X, hX, q⟩
      · exact h.old x hx W hW V q hk
      · rw [q] at hk
        exact absurd hk (hap x hx hne W hW X hX)
    · obtain ⟨hx, hne⟩ := mem_drop_.1 hx
      show kMany (applyV P.S t n e.l).2 W.k < 50
      rw [ea, ← one_len, puts_other e.l P.S ho (hap x hx hne W hW), one_len]
      exact h.room x hx W hW
    · obtain ⟨U, u1, u2, u3⟩ := h.keys
      refine ⟨U, fun k hk => ?_, fun k hk => ?_, u3⟩
      · obtain ⟨V, hV, ek⟩ := (keys_mem _ k).1 hk
        have hV' : V ∈ putsW t n e.l P.S := by rw [← ea]; exact hV
        rcases puts_mem e.l P.S V hV' with q | ⟨X, hX, q⟩
        · exact u1 k ((keys_mem _ k).2 ⟨V, q, ek⟩)
        · refine u2 k (List.mem_flatMap.2 ⟨e, hem, List.mem_map.2 ⟨X, hX, ?_⟩⟩)
          rw [← ek, q]
          rfl
      · obtain ⟨x, hx, hk⟩ := List.mem_flatMap.1 hk
        exact u2 k (List.mem_flatMap.2 ⟨x, (mem_drop_.1 hx).1, hk⟩)
    · obtain ⟨hx, hne⟩ := mem_drop_.1 hx
      show overP (P.O ++ [(id, 2)]) x.id = none
      rw [over_app, h.opn x hx]
      show (if id = x.id then some (2 : Int) else none) = none
      rw [if_neg (fun e => hne e.symm)]
    · rcases List.mem_append.1 hx with hx | hx
      · exact h.how x hx
      · rw [List.mem_singleton] at hx; rw [hx]; exact .inl rfl
theorem PstK.abort {P : PSt} (h : PstK P) (id : Int) : PstK (abortP P id).2 := by
  unfold abortP
  by_cases h1 : id < 1
  · rw [if_pos h1]; exact h
  rw [if_neg h1]
  by_cases h2 : stateP P id = 2
  · rw [if_pos h2]; exact h
  rw [if_neg h2]
  by_cases h3 : stateP P id = 3
  · rw [if_pos h3]; exact h
  rw [if_neg h3]
  obtain ⟨U, u1, u2, u3⟩ := h.keys
  refine ⟨h.sto, h.tab.drop id, fun x hx => h.old x (mem_drop_.1 hx).1, fun x hx => h.room x (mem_drop_.1 hx).1, ⟨U, u1, fun k hk => ?_, u3⟩, fun x hx => ?_, fun x hx => ?_, fun x hx => h.ok x (mem_drop_.1 hx).1⟩
  · obtain ⟨x, hx, hk⟩ := List.mem_flatMap.1 hk
    exact u2 k (List.mem_flatMap.2 ⟨x, (mem_drop_.1 hx).1, hk⟩)
  · obtain ⟨hx, hne⟩ := mem_drop_.1 hx
    show overP (P.O ++ [(id, 3)]) x.id = none
    rw [over_app, h.opn x hx]
    show (if id = x.id then some (3 : Int) else none) = none
    rw [if_neg (fun e => hne e.symm)]
  · rcases List.mem_append.1 hx with hx | hx
    · exact h.how x hx
    · rw [List.mem_singleton] at hx; rw [hx]; exact .inr rfl
theorem many_rest (S : List Ver) (h : OrdK S) (t n : Int) (k : List Int) : kMany (restV S t n) k ≤ kMany S k := by
  rw [← chain_len, ← chain_len, chain_filter (ord_rest h t n), chain_filter h]
  unfold restV
  rw [List.filter_filter]
  have e : (fun a : Ver => decide (a.k = k) && !goesV S t n a) = fun a => (!goesV S t n a) && decide (a.k = k) := by funext a; exact Bool.and_comm _ _
  rw [e, ← List.filter_filter]
  exact List.length_filter_le _ _
theorem PstK.trim {P : PSt} (h : PstK P) (t n : Int) : PstK (trimP P t n).2 := by
  obtain ⟨U, u1, u2, u3⟩ := h.keys
  refine ⟨h.sto.rest t n, h.tab, fun x hx W hW V hV hk => h.old x hx W hW V (List.mem_filter.1 hV).1 hk, fun x hx W hW => Nat.lt_of_le_of_lt (many_rest P.S h.sto.sto.ord t n W.k) (h.room x hx W hW), ⟨U, fun k hk => ?_, u2, u3⟩, h.opn, h.how, h.ok⟩
  obtain ⟨V, hV, ek⟩ := (keys_mem _ k).1 hk
  exact u1 k ((keys_mem _ k).2 ⟨V, (List.mem_filter.1 hV).1, ek⟩)
theorem PstK.play {P : PSt} (h : PstK P) (r : Rcd) (hn : 0 ≤ r.n ∧ r.n ≤ 255) (hok : ∀ W ∈ r.l, Ky W.k ∧ ∀ z ∈ W.v, 0 ≤ z ∧ z ≤ 255) : PstK (playP P r).2 := by
  unfold playP
  split
  · exact h
  · split
    · exact h.prep (entR' r) hok
    · split
      · exact h.commit _ _ _ hn
      · split
        · exact h.abort _
        · exact h
end Go.Proofs.YtileidbdmpeciaaGreat

