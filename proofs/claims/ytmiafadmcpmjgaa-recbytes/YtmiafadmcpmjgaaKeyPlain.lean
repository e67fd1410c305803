/-
  Plain facts on chapter 10: keys of sixteen bytes, their texts, their order, lists of them in order.
-/
namespace Go.Proofs.Ytmiafadmcpmjgaa
set_option linter.unusedVariables false

/-- A key's sixteen bytes. -/
structure Ky (k : List Int) : Prop where
  len : k.length = 16
  bytes : ∀ z ∈ k, 0 ≤ z ∧ z ≤ 255
/-- How two rows of numbers lie, the first that differ deciding. -/
def lexC : List Int → List Int → Int
  | [], [] => 0
  | [], _ :: _ => -1
  | _ :: _, [] => 1
  | a :: r, b :: s => if a < b then -1 else if b < a then 1 else lexC r s
theorem lexC_self : ∀ a, lexC a a = 0
  | [] => rfl
  | a :: r => by unfold lexC; rw [if_neg (by omega), if_neg (by omega)]; exact lexC_self r
theorem lexC_eq : ∀ {a b : List Int}, lexC a b = 0 → a = b
  | [], [], _ => rfl
  | [], _ :: _, h => by simp [lexC] at h
  | _ :: _, [], h => by simp [lexC] at h
  | a :: r, b :: s, h => by
    unfold lexC at h
    split at h
    · simp at h
    · split at h
      · simp at h
      · rw [show a = b by omega, lexC_eq h]
theorem lexC_zero {a b : List Int} : lexC a b = 0 ↔ a = b := ⟨lexC_eq, fun h => by rw [h]; exact lexC_self b⟩
theorem lexC_ways : ∀ a b : List Int, lexC a b = -1 ∨ lexC a b = 0 ∨ lexC a b = 1
  | [], [] => .inr (.inl rfl)
  | [], _ :: _ => .inl rfl
  | _ :: _, [] => .inr (.inr rfl)
  | a :: r, b :: s => by
    unfold lexC
    split
    · exact .inl rfl
    · split
      · exact .inr (.inr rfl)
      · exact lexC_ways r s
theorem lexC_swap : ∀ a b : List Int, lexC b a = -lexC a b
  | [], [] => rfl
  | [], _ :: _ => rfl
  | _ :: _, [] => rfl
  | a :: r, b :: s => by
    unfold lexC
    by_cases h1 : a < b
    · rw [if_pos h1, if_neg (by omega), if_pos h1]; rfl
    · by_cases h2 : b < a
      · rw [if_pos h2, if_neg h1, if_pos h2]
      · rw [if_neg h1, if_neg h2, if_neg h2, if_neg h1]; exact lexC_swap r s
theorem lexC_trans : ∀ {a b c : List Int}, lexC a b = -1 → lexC b c = -1 → lexC a c = -1
  | [], [], _, h, _ => by simp [lexC] at h
  | [], _ :: _, [], _, h => by simp [lexC] at h
  | [], _ :: _, _ :: _, _, _ => rfl
  | _ :: _, [], _, h, _ => by simp [lexC] at h
  | _ :: _, _ :: _, [], _, h => by simp [lexC] at h
  | a :: r, b :: s, c :: t, h1, h2 => by
    unfold lexC at h1 h2 ⊢
    by_cases x1 : a < b
    · by_cases x2 : b < c
      · rw [if_pos (by omega)]
      · rw [if_neg x2] at h2
        by_cases x3 : c < b
        · rw [if_pos x3] at h2; simp at h2
        · rw [if_pos (by omega)]
    · rw [if_neg x1] at h1
      by_cases y1 : b < a
      · rw [if_pos y1] at h1; simp at h1
      · rw [if_neg y1] at h1
        have e : a = b := by omega
        subst e
        by_cases x2 : a < c
        · rw [if_pos x2]
        · rw [if_neg x2] at h2 ⊢
          by_cases x3 : c < a
          · rw [if_pos x3] at h2; simp at h2
          · rw [if_neg x3] at h2 ⊢; exact lexC_trans h1 h2
/-- Alike up to place k, and less, or more, there. -/
theorem lexC_less : ∀ {a b : List Int} (k : Nat), a.take k = b.take k → k < a.length → k < b.length → a.getD k 0 < b.getD k 0 → lexC a b = -1
  | [], _, k, _, h, _, _ => by simp at h
  | _ :: _, [], k, _, _, h, _ => by simp at h
  | a :: r, b :: s, 0, _, _, _, h => by unfold lexC; rw [if_pos (by simpa using h)]
  | a :: r, b :: s, k + 1, ht, h1, h2, h => by
    simp at ht h1 h2
    obtain ⟨e, ht⟩ := ht
    subst e
    unfold lexC
    rw [if_neg (by omega), if_neg (by omega)]
    exact lexC_less k ht h1 h2 (by simpa using h)
theorem lexC_more {a b : List Int} (k : Nat) (ht : a.take k = b.take k) (h1 : k < a.length) (h2 : k < b.length) (h : b.getD k 0 < a.getD k 0) : lexC a b = 1 := by
  rw [lexC_swap b a, lexC_less k ht.symm h2 h1 h]; rfl
theorem take_next {a b : List Int} {k : Nat} (h : a.take k = b.take k) (ha : k < a.length) (hb : k < b.length) (he : a.getD k 0 = b.getD k 0) : a.take (k + 1) = b.take (k + 1) := by
  rw [List.take_succ_eq_append_getElem ha, List.take_succ_eq_append_getElem hb, h]
  have e1 : a.getD k 0 = a[k] := by simp [List.getD, ha]
  have e2 : b.getD k 0 = b[k] := by simp [List.getD, hb]
  rw [e1, e2] at he
  rw [he]
/-- A key's text: what stands ahead of its first 0. -/
def txK (k : List Int) : List Int := k.takeWhile fun z => z != 0
/-- May a key be? -/
def goodK (k : List Int) : Bool := decide (k.getD 0 0 ≠ 0 ∧ ∀ z ∈ k.drop (txK k).length, z = 0)
/-- A key's text, or nothing. -/
def textK (k : List Int) : List Int := if goodK k then txK k else []
/-- May a text be a key's? -/
def mayK (s : List Int) : Bool := decide (1 ≤ s.length ∧ s.length ≤ 16 ∧ ∀ z ∈ s, z ≠ 0)
/-- A text's key. -/
def keyK (s : List Int) : List Int := s ++ List.replicate (16 - s.length) 0
def zeroK : List Int := List.replicate 16 0
/-- What Of answers. -/
def ofK (s : List Int) : List Int := if mayK s then keyK s else zeroK
theorem zeroK_ky : Ky zeroK := ⟨by decide, by decide⟩
theorem keyK_ky {s : List Int} (h : s.length ≤ 16) (hb : ∀ z ∈ s, 0 ≤ z ∧ z ≤ 255) : Ky (keyK s) := by
  refine ⟨by simp [keyK]; omega, fun z hz => ?_⟩
  rcases List.mem_append.1 hz with hz | hz
  · exact hb z hz
  · rw [List.eq_of_mem_replicate hz]; omega
theorem ofK_ky {s : List Int} (hb : ∀ z ∈ s, 0 ≤ z ∧ z ≤ 255) : Ky (ofK s) := by
  unfold ofK
  split
  · next h => exact keyK_ky (of_decide_eq_true h).2.1 hb
  · exact zeroK_ky
theorem txK_none (k : List Int) : ∀ z ∈ txK k, z ≠ 0 := by
  intro z hz
  have : (k.takeWhile fun z => z != 0).all (fun z => z != 0) = true := by
    have h : ∀ l : List Int, (l.takeWhile fun z => z != 0).all (fun z => z != 0) = true := by
      intro l
      induction l with
      | nil => rfl
      | cons a r ih => rw [List.takeWhile_cons]; split <;> simp_all
    exact h k
  simpa using List.all_eq_true.1 this z hz
theorem txK_le (k : List Int) : (txK k).length ≤ k.length := (List.takeWhile_sublist _).length_le
theorem txK_app {s r : List Int} (hs : ∀ z ∈ s, z ≠ 0) (hr : ∀ z ∈ r, z = 0) : txK (s ++ r) = s := by
  induction s with
  | nil =>
    cases r with
    | nil => rfl
    | cons a r => simp [txK, hr a (by simp)]
  | cons a s ih =>
    have ha := hs a (by simp)
    have := ih (fun z hz => hs z (by simp [hz]))
    unfold txK at this ⊢
    rw [List.cons_append, List.takeWhile_cons, if_pos (by simpa using ha), this]
theorem txK_split (k : List Int) : k = txK k ++ k.drop (txK k).length := by
  have h : ∀ l : List Int, l = (l.takeWhile fun z => z != 0) ++ l.drop (l.takeWhile fun z => z != 0).length := by
    intro l
    induction l with
    | nil => rfl
    | cons a r ih =>
      rw [List.takeWhile_cons]
      split
      · rw [List.length_cons, List.drop_succ_cons, List.cons_append, ← ih]
      · rfl
  exact h k
theorem rep_of {r : List Int} {n : Nat} (hn : r.length = n) (h : ∀ z ∈ r, z = 0) : r = List.replicate n 0 := by
  rw [← hn]; exact List.eq_replicate_iff.2 ⟨rfl, h⟩
/-- A text's key may be, and has that text. -/
theorem good_key {s : List Int} (h : mayK s = true) : goodK (keyK s) = true ∧ txK (keyK s) = s := by
  obtain ⟨h1, h2, h3⟩ := of_decide_eq_true h
  have e : txK (keyK s) = s := txK_app h3 (fun z hz => List.eq_of_mem_replicate hz)
  refine ⟨decide_eq_true ⟨?_, ?_⟩, e⟩
  · cases s with
    | nil => simp at h1
    | cons a r => simpa [keyK] using h3 a (by simp)
  · rw [e]
    intro z hz
    simp [keyK] at hz
    exact hz.2
theorem good_may {k : List Int} (hk : Ky k) (h : goodK k = true) : mayK (txK k) = true ∧ keyK (txK k) = k := by
  obtain ⟨h1, h2⟩ := of_decide_eq_true h
  have hl := txK_le k
  have hlen := hk.len
  refine ⟨decide_eq_true ⟨?_, by omega, txK_none k⟩, ?_⟩
  · cases k with
    | nil => simp at hlen
    | cons a r =>
      have ha : a ≠ 0 := by simpa using h1
      simp [txK, ha]
  · unfold keyK
    have : k.drop (txK k).length = List.replicate (16 - (txK k).length) 0 := rep_of (by simp; omega) h2
    rw [← this]
    exact (txK_split k).symm
/-- A key that may not be: its text is nothing, and nothing is no key's text. -/
theorem text_may {k : List Int} (hk : Ky k) : mayK (textK k) = goodK k ∧ (goodK k = true → keyK (textK k) = k) := by
  unfold textK
  cases h : goodK k with
  | true => rw [if_pos rfl]; exact ⟨(good_may hk h).1, fun _ => (good_may hk h).2⟩
  | false => rw [if_neg (by simp)]; exact ⟨by decide, fun h => by simp at h⟩
theorem keyK_inj {s t : List Int} (hs : mayK s = true) (ht : mayK t = true) (h : keyK s = keyK t) : s = t := by
  rw [← (good_key hs).2, h, (good_key ht).2]
/-- Keys are in the order of their texts. -/
theorem lex_key : ∀ {s t : List Int} {m n : Nat}, (∀ z ∈ s, 0 < z) → (∀ z ∈ t, 0 < z) → s.length + m = t.length + n → lexC (s ++ List.replicate m 0) (t ++ List.replicate n 0) = lexC s t
  | [], [], m, n, _, _, h => by
    obtain rfl : m = n := by simpa using h
    rw [lexC_self]; rfl
  | [], b :: t, m, n, _, ht, h => by
    cases m with
    | zero => simp at h; omega
    | succ m =>
      have := ht b (by simp)
      simp only [List.replicate_succ, List.nil_append, List.cons_append, lexC]
      rw [if_pos this]
  | a :: s, [], m, n, hs, _, h => by
    cases n with
    | zero => simp at h
    | succ n =>
      have := hs a (by simp)
      simp only [List.replicate_succ, List.nil_append, List.cons_append, lexC]
      rw [if_neg (by omega), if_pos this]
  | a :: s, b :: t, m, n, hs, ht, h => by
    simp only [List.cons_append, lexC]
    rw [lex_key (fun z hz => hs z (by simp [hz])) (fun z hz => ht z (by simp [hz])) (by simp at h; omega)]
theorem lex_keys {s t : List Int} (hs : mayK s = true) (ht : mayK t = true) (bs : ∀ z ∈ s, 0 ≤ z) (bt : ∀ z ∈ t, 0 ≤ z) : lexC (keyK s) (keyK t) = lexC s t := by
  obtain ⟨_, h2, h3⟩ := of_decide_eq_true hs
  obtain ⟨_, g2, g3⟩ := of_decide_eq_true ht
  exact lex_key (fun z hz => by have := bs z hz; have := h3 z hz; omega) (fun z hz => by have := bt z hz; have := g3 z hz; omega) (by omega)
/-- Is a key between two? -/
def withinK (k a b : List Int) : Bool := decide (0 ≤ lexC k a) && (decide (b = zeroK) || decide (lexC k b < 0))
theorem zero_least : ∀ {a : List Int} {n : Nat}, a.length = n → (∀ z ∈ a, 0 ≤ z) → lexC a (List.replicate n 0) = 0 ∨ lexC a (List.replicate n 0) = 1
  | [], n, h, _ => by simp at h; subst h; exact .inl rfl
  | a :: r, n, h, hz => by
    cases n with
    | zero => simp at h
    | succ n =>
      have h0 := hz a (by simp)
      simp only [List.replicate_succ, lexC]
      rw [if_neg (by omega)]
      by_cases x : 0 < a
      · rw [if_pos x]; exact .inr rfl
      · rw [if_neg x]; exact zero_least (by simpa using h) (fun z hz' => hz z (by simp [hz']))
theorem lex_le_trans {a b c : List Int} (h1 : lexC a b ≤ 0) (h2 : lexC b c ≤ 0) : lexC a c ≤ 0 := by
  rcases lexC_ways a b with x | x | x
  · rcases lexC_ways b c with y | y | y
    · rw [lexC_trans x y]; omega
    · rw [← lexC_eq y, x]; omega
    · omega
  · rw [lexC_eq x]; exact h2
  · omega
theorem lex_lt_le {a b c : List Int} (h1 : lexC a b < 0) (h2 : lexC b c ≤ 0) : lexC a c < 0 := by
  rcases lexC_ways a b with x | x | x
  · rcases lexC_ways b c with y | y | y
    · rw [lexC_trans x y]; omega
    · rw [← lexC_eq y, x]; omega
    · omega
  · omega
  · omega
theorem lex_le_lt {a b c : List Int} (h1 : lexC a b ≤ 0) (h2 : lexC b c < 0) : lexC a c < 0 := by
  rcases lexC_ways a b with x | x | x
  · rcases lexC_ways b c with y | y | y
    · rw [lexC_trans x y]; omega
    · omega
    · omega
  · rw [lexC_eq x]; exact h2
  · omega
/-- Stretches side by side have each key once. -/
theorem within_parts {k a b c : List Int} (hb : Ky b) (hk : Ky k) (h1 : ¬ 0 < lexC a b) (h2 : ¬ 0 < lexC b c) (hne : ¬ b = zeroK) :
    (withinK k a b && withinK k b c) = false ∧ withinK k a c = (withinK k a b || withinK k b c) := by
  have hc : ¬ c = zeroK := by
    intro e
    subst e
    rcases zero_least hb.len (fun z hz => (hb.bytes z hz).1) with h | h
    · exact hne (lexC_eq h)
    · exact h2 (by show 0 < lexC b (List.replicate 16 0); omega)
  unfold withinK
  rw [decide_eq_false hne, decide_eq_false hc, Bool.false_or, Bool.false_or]
  have sab := lexC_swap a k
  have sbb := lexC_swap b k
  by_cases x : lexC k b < 0
  · have : lexC k c < 0 := lex_lt_le x (by omega)
    rw [decide_eq_true x, decide_eq_true this, decide_eq_false (show ¬ 0 ≤ lexC k b by omega)]
    simp
  · have hak : 0 ≤ lexC k a := by
      have : lexC a k ≤ 0 := lex_le_trans (show lexC a b ≤ 0 by omega) (show lexC b k ≤ 0 by have := lexC_swap k b; omega)
      have := lexC_swap a k
      omega
    rw [decide_eq_false x, decide_eq_true (show 0 ≤ lexC k b by omega), decide_eq_true hak]
    simp
/-- A key laid in its place, once. -/
def insK (x : List Int) : List (List Int) → List (List Int)
  | [] => [x]
  | a :: r => if lexC a x < 0 then a :: insK x r else if a = x then a :: r else x :: a :: r
def sortK (l : List (List Int)) : List (List Int) := l.foldl (fun s x => insK x s) []
theorem sortK_snoc (l : List (List Int)) (x : List Int) : sortK (l ++ [x]) = insK x (sortK l) := by simp [sortK, List.foldl_append]
/-- Rising, each once. -/
def Rising : List (List Int) → Prop
  | [] => True
  | [_] => True
  | a :: b :: r => lexC a b < 0 ∧ Rising (b :: r)
theorem Rising.tail {a : List Int} {r : List (List Int)} (h : Rising (a :: r)) : Rising r := by
  cases r with
  | nil => trivial
  | cons b r => exact h.2
theorem Rising.head {a : List Int} : ∀ {r : List (List Int)}, Rising (a :: r) → ∀ y ∈ r, lexC a y < 0
  | [], _, y, hy => by simp at hy
  | b :: r, h, y, hy => by
    rcases List.mem_cons.1 hy with rfl | hy
    · exact h.1
    · exact lex_lt_le h.1 (Int.le_of_lt (Rising.head h.2 y hy))
theorem rising_cons {a : List Int} {r : List (List Int)} (h : ∀ y ∈ r, lexC a y < 0) (hr : Rising r) : Rising (a :: r) := by
  cases r with
  | nil => trivial
  | cons b r => exact ⟨h b (by simp), hr⟩
theorem mem_insK (x : List Int) : ∀ (s : List (List Int)) (y : List Int), y ∈ insK x s ↔ y = x ∨ y ∈ s
  | [], y => by simp [insK]
  | a :: r, y => by
    unfold insK
    split
    · simp [mem_insK x r y]
      constructor
      · rintro (h | h | h) <;> simp [h]
      · rintro (h | h | h) <;> simp [h]
    · split
      · next h => subst h; simp
      · simp
theorem insK_rising (x : List Int) : ∀ {s : List (List Int)}, Rising s → Rising (insK x s)
  | [], _ => trivial
  | a :: r, h => by
    unfold insK
    split
    · next h1 =>
      refine rising_cons (fun y hy => ?_) (insK_rising x h.tail)
      rcases (mem_insK x r y).1 hy with rfl | hy
      · exact h1
      · exact h.head y hy
    · next h1 =>
      split
      · exact h
      · next h2 =>
        have hx : lexC x a < 0 := by
          have := lexC_swap a x
          rcases lexC_ways a x with e | e | e
          · omega
          · exact absurd (lexC_eq e) h2
          · omega
        exact ⟨hx, h⟩
theorem insK_length (x : List Int) : ∀ s : List (List Int), (insK x s).length ≤ s.length + 1
  | [] => by simp [insK]
  | a :: r => by
    unfold insK
    have := insK_length x r
    split
    · simp; omega
    · split <;> simp
theorem snoc_ind {α : Type} {P : List α → Prop} (h0 : P []) (h1 : ∀ l x, P l → P (l ++ [x])) (l : List α) : P l := by
  have h : ∀ r : List α, P r.reverse := fun r => by
    induction r with
    | nil => exact h0
    | cons a r ih => rw [List.reverse_cons]; exact h1 _ _ ih
  have := h l.reverse
  rwa [List.reverse_reverse] at this
theorem sortK_facts (l : List (List Int)) : Rising (sortK l) ∧ (∀ y, y ∈ sortK l ↔ y ∈ l) ∧ (sortK l).length ≤ l.length := by
  induction l using snoc_ind with
  | h0 => exact ⟨trivial, by simp [sortK], by simp [sortK]⟩
  | h1 l x ih =>
    rw [sortK_snoc]
    refine ⟨insK_rising x ih.1, fun y => ?_, ?_⟩
    · rw [mem_insK, ih.2.1 y]; simp; exact or_comm
    · have := insK_length x (sortK l); simp; omega
theorem insK_last (x : List Int) : ∀ {s : List (List Int)}, (∀ y ∈ s, lexC y x < 0) → insK x s = s ++ [x]
  | [], _ => rfl
  | a :: r, h => by
    unfold insK
    rw [if_pos (h a (by simp)), insK_last x (fun y hy => h y (by simp [hy]))]
    rfl
theorem rising_last {s : List (List Int)} {x : List Int} (h : Rising (s ++ [x])) : Rising s ∧ ∀ y ∈ s, lexC y x < 0 := by
  induction s with
  | nil => exact ⟨trivial, by simp⟩
  | cons a r ih =>
    obtain ⟨i1, i2⟩ := ih (Rising.tail h)
    refine ⟨rising_cons (fun y hy => Rising.head h y (by simp [hy])) i1, fun y hy => ?_⟩
    rcases List.mem_cons.1 hy with rfl | hy
    · exact Rising.head h x (by simp)
    · exact i2 y hy
theorem sortK_same {s : List (List Int)} (h : Rising s) : sortK s = s := by
  induction s using snoc_ind with
  | h0 => rfl
  | h1 s x ih =>
    obtain ⟨h1, h2⟩ := rising_last h
    rw [sortK_snoc, ih h1, insK_last x h2]
theorem insK_split (x : List Int) : ∀ (s : List (List Int)) (k : Nat), k ≤ s.length → (∀ j, j < k → lexC (s.getD j []) x < 0) → (k < s.length → ¬ lexC (s.getD k []) x < 0 ∧ ¬ s.getD k [] = x) → insK x s = s.take k ++ x :: s.drop k
  | [], k, hk, _, _ => by simp at hk; subst hk; rfl
  | a :: r, 0, _, _, h => by
    obtain ⟨h1, h2⟩ := h (by simp)
    unfold insK
    rw [if_neg (by simpa using h1), if_neg (by simpa using h2)]
    rfl
  | a :: r, k + 1, hk, h1, h2 => by
    have h0 := h1 0 (by omega)
    unfold insK
    rw [if_pos (by simpa using h0)]
    rw [insK_split x r k (by simpa using hk) (fun j hj => by simpa using h1 (j + 1) (by omega)) (fun hlt => by simpa using h2 (by simp; omega))]
    rfl
theorem insK_there (x : List Int) : ∀ (s : List (List Int)) (k : Nat), k < s.length → (∀ j, j < k → lexC (s.getD j []) x < 0) → s.getD k [] = x → insK x s = s
  | [], k, hk, _, _ => by simp at hk
  | a :: r, 0, _, _, h => by
    have e : a = x := by simpa using h
    subst e
    unfold insK
    rw [lexC_self, if_neg (by omega), if_pos rfl]
  | a :: r, k + 1, hk, h1, h2 => by
    have h0 := h1 0 (by omega)
    unfold insK
    rw [if_pos (by simpa using h0)]
    rw [insK_there x r k (by simpa using hk) (fun j hj => by simpa using h1 (j + 1) (by omega)) (by simpa using h2)]
theorem sortK_take (l : List (List Int)) (i : Nat) (h : i < l.length) : sortK (l.take (i + 1)) = insK (l.getD i []) (sortK (l.take i)) := by
  have e : l.take (i + 1) = l.take i ++ [l.getD i []] := by
    rw [List.take_add_one]
    simp [List.getD, h]
  rw [e, sortK_snoc]
end Go.Proofs.Ytmiafadmcpmjgaa
