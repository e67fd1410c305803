/-
  What follows for chains: puts in any order, what a trim leaves to be seen, how many are behind a time.
-/
import Derived.Test.YtchcjdpajnbknabChainPlain
namespace Go.Proofs.Ytchcjdpajnbknab
set_option linter.unusedVariables false

/-- A version that may be put. -/
structure Pv (V : Ver) : Prop where
  key : V.k = zeroK
  ins : 0 ≤ V.n ∧ V.n ≤ 255 ∧ ∀ z ∈ V.v, 0 ≤ z ∧ z ≤ 255
theorem put_zero {L : List Ver} {V : Ver} (h : Chn L) (hV : V.k = zeroK) (hf : L.length < 50) : (putV L V).1 = 0 ↔ mayV V = true ∧ ¬ ∃ X ∈ L, X.t = V.t ∧ X.n = V.n := by
  rw [put_one h.one hV, ← clash_iff h.one h.ups hV]
  by_cases h1 : mayV V = false
  · rw [if_pos h1]; simp [h1]
  · rw [if_neg h1]
    by_cases h2 : clashV L V = true
    · rw [if_pos h2]; simp [h2]
    · rw [if_neg h2, if_neg (by omega)]; simp [h2, (by simpa using h1 : mayV V = true)]
theorem put_mem {L : List Ver} {V X : Ver} (h : Chn L) (hV : V.k = zeroK) (hf : L.length < 50) : X ∈ (putV L V).2 ↔ X ∈ L ∨ (X = V ∧ (putV L V).1 = 0) := by
  rw [put_one h.one hV]
  by_cases h1 : mayV V = false
  · rw [if_pos h1]; simp
  · rw [if_neg h1]
    by_cases h2 : clashV L V = true
    · rw [if_pos h2]; simp
    · rw [if_neg h2, if_neg (by omega)]
      rw [mem_ins]
      simp
      exact or_comm
theorem put_len {L : List Ver} {V : Ver} (h : Chn L) (hV : V.k = zeroK) : (putV L V).2.length ≤ L.length + 1 := by
  rw [put_one h.one hV]
  have := rk_le L V
  split
  · simp
  · split
    · simp
    · split
      · simp
      · simp; omega
theorem puts_facts (l : List Ver) (hl : l.length ≤ 49) (hp : ∀ V ∈ l, Pv V) : Chn (putsV l) ∧ (∀ X ∈ putsV l, X ∈ l) ∧ (putsV l).length ≤ l.length := by
  induction l using snoc_ind with
  | h0 => exact ⟨Chn.nil, fun X h => h, Nat.le_refl _⟩
  | h1 l V ih =>
    rw [List.length_append, List.length_singleton] at hl
    obtain ⟨c, m, s⟩ := ih (by omega) (fun X hX => hp X (by simp [hX]))
    have hV := hp V (by simp)
    rw [puts_snoc]
    refine ⟨c.put hV.key hV.ins, fun X hX => ?_, ?_⟩
    · rcases (put_mem c hV.key (by omega)).1 hX with h | ⟨h, _⟩
      · simp [m X h]
      · simp [h]
    · have := put_len (V := V) c hV.key
      simp; omega
/-- No two have one stamp. -/
def Dst (l : List Ver) : Prop := l.Pairwise fun A B => ¬ (A.t = B.t ∧ A.n = B.n)
theorem puts_all (l : List Ver) (hl : l.length ≤ 49) (hp : ∀ V ∈ l, Pv V) (hd : Dst l) : ∀ X, X ∈ putsV l ↔ X ∈ l ∧ mayV X = true := by
  induction l using snoc_ind with
  | h0 => intro X; simp [putsV]
  | h1 l V ih =>
    rw [List.length_append, List.length_singleton] at hl
    unfold Dst at hd
    rw [List.pairwise_append] at hd
    have hp' : ∀ X ∈ l, Pv X := fun X hX => hp X (by simp [hX])
    have ih := ih (by omega) hp' hd.1
    obtain ⟨c, m, s⟩ := puts_facts l (by omega) hp'
    have hV := hp V (by simp)
    intro X
    rw [puts_snoc, put_mem c hV.key (by omega), put_zero c hV.key (by omega), ih X]
    constructor
    · rintro (⟨h1, h2⟩ | ⟨rfl, h2, _⟩)
      · exact ⟨by simp [h1], h2⟩
      · exact ⟨by simp, h2⟩
    · rintro ⟨h1, h2⟩
      rcases List.mem_append.1 h1 with h1 | h1
      · exact .inl ⟨h1, h2⟩
      · simp at h1
        subst h1
        refine .inr ⟨rfl, h2, ?_⟩
        rintro ⟨Y, hY, he⟩
        exact hd.2.2 Y (m Y hY) X (by simp) he
theorem puts_order (l : List Ver) (hl : l.length ≤ 49) (hp : ∀ V ∈ l, Pv V) (hd : Dst l) : putsV l = putsV l.reverse := by
  have hp' : ∀ V ∈ l.reverse, Pv V := fun V hV => hp V (List.mem_reverse.1 hV)
  have hd' : Dst l.reverse := by
    unfold Dst
    rw [List.pairwise_reverse]
    exact hd.imp fun h e => h ⟨e.1.symm, e.2.symm⟩
  refine ups_ext (puts_facts l hl hp).1.ups (puts_facts l.reverse (by simpa using hl) hp').1.ups fun X => ?_
  rw [puts_all l hl hp hd, puts_all l.reverse (by simpa using hl) hp' hd', List.mem_reverse]
/-! ### At -/
theorem at_one {L : List Ver} (h : One L) (t n : Int) : atV L zeroK t n = L.reverse.find? (fun X => decide (cmpS X.t X.n t n ≤ 0)) := by
  unfold atV
  rw [one_chain h]
theorem not_above {X : Ver} {t n : Int} : decide (cmpS X.t X.n t n ≤ 0) = true ↔ ¬ ltS t n X.t X.n := by
  rw [decide_eq_true_iff, ← cmp_pos]
  omega
theorem at_none_iff {L : List Ver} (h : One L) {t n : Int} : atV L zeroK t n = none ↔ ∀ Y ∈ L, ltS t n Y.t Y.n := by
  rw [at_one h, List.find?_eq_none]
  constructor
  · intro hh Y hY
    have := hh Y (List.mem_reverse.2 hY)
    rw [not_above] at this
    exact Classical.not_not.1 this
  · intro hh Y hY
    rw [not_above]
    exact fun hn => hn (hh Y (List.mem_reverse.1 hY))
theorem at_some_facts {L : List Ver} (h : One L) (hu : Ups L) {t n : Int} {X : Ver} (hx : atV L zeroK t n = some X) : X ∈ L ∧ ¬ ltS t n X.t X.n ∧ ∀ Y ∈ L, ¬ ltS t n Y.t Y.n → Y = X ∨ ltV Y X := by
  rw [at_one h] at hx
  obtain ⟨hp, ps, bs, hl, ha⟩ := List.find?_eq_some_iff_append.1 hx
  have hL : L = bs.reverse ++ X :: ps.reverse := by
    have := congrArg List.reverse hl
    rw [List.reverse_reverse] at this
    rw [this]
    simp
  refine ⟨by rw [hL]; simp, not_above.1 hp, fun Y hY hn => ?_⟩
  rw [hL] at hY hu
  unfold Ups at hu
  rw [List.pairwise_append] at hu
  rcases List.mem_append.1 hY with hY | hY
  · exact .inr (hu.2.2 Y hY X (by simp))
  · rcases List.mem_cons.1 hY with hY | hY
    · exact .inl hY
    · have := ha Y (List.mem_reverse.1 hY)
      rw [not_above.2 hn] at this
      simp at this
theorem at_is {L : List Ver} (h : One L) (hu : Ups L) {t n : Int} {X : Ver} (hm : X ∈ L) (hn : ¬ ltS t n X.t X.n) (hmax : ∀ Y ∈ L, ¬ ltS t n Y.t Y.n → Y = X ∨ ltV Y X) : atV L zeroK t n = some X := by
  cases hx : atV L zeroK t n with
  | none => exact absurd ((at_none_iff h).1 hx X hm) hn
  | some Z =>
    obtain ⟨z1, z2, z3⟩ := at_some_facts h hu hx
    rcases z3 X hm hn with e | e
    · rw [e]
    · rcases hmax Z z1 z2 with e' | e'
      · rw [e']
      · exact absurd (ltS_trans e e') (ltV_irr X)
theorem ups_same {L : List Ver} (hu : Ups L) {X Y : Ver} (hX : X ∈ L) (hY : Y ∈ L) (he : X.t = Y.t ∧ X.n = Y.n) : X = Y := by
  obtain ⟨i, hi⟩ := List.getElem?_of_mem hX
  obtain ⟨j, hj⟩ := List.getElem?_of_mem hY
  rcases Nat.lt_trichotomy i j with h | h | h
  · have : ltS X.t X.n Y.t Y.n := hu.at h hi hj
    unfold ltS at this
    omega
  · subst h; rw [hi] at hj; injection hj
  · have : ltS Y.t Y.n X.t X.n := hu.at h hj hi
    unfold ltS at this
    omega
/-! ### Trim -/
theorem rest_none {L : List Ver} (h : One L) {t n : Int} (hx : atV L zeroK t n = none) : restV L t n = L := by
  unfold restV
  refine List.filter_eq_self.2 fun V hV => ?_
  unfold goesV
  rw [h V hV, hx]
  rfl
theorem rest_mem {L : List Ver} (h : One L) {t n : Int} {X V : Ver} (hx : atV L zeroK t n = some X) : V ∈ restV L t n ↔ V ∈ L ∧ ¬ ltV V X ∧ ¬ ((V.t = X.t ∧ V.n = X.n) ∧ X.g = true) := by
  unfold restV
  rw [List.mem_filter]
  constructor
  · rintro ⟨h1, h2⟩
    unfold goesV at h2
    rw [h V h1, hx] at h2
    simp only [Bool.not_eq_true', Bool.or_eq_false_iff, Bool.and_eq_false_iff, decide_eq_false_iff_not] at h2
    refine ⟨h1, fun hl => h2.1 (cmp_neg.2 hl), fun ⟨e, g⟩ => ?_⟩
    rcases h2.2 with h3 | h3
    · exact h3 (cmp_nil.2 e)
    · rw [g] at h3; cases h3
  · rintro ⟨h1, h2, h3⟩
    refine ⟨h1, ?_⟩
    unfold goesV
    rw [h V h1, hx]
    simp only [Bool.not_eq_true', Bool.or_eq_false_iff, Bool.and_eq_false_iff, decide_eq_false_iff_not]
    refine ⟨fun hc => h2 (cmp_neg.1 hc), ?_⟩
    by_cases hg : X.g = true
    · exact .inl fun hc => h3 ⟨cmp_nil.1 hc, hg⟩
    · exact .inr (by simpa using hg)
theorem trim_same {L : List Ver} (h : Chn L) (t n : Int) : restV (restV L t n) t n = restV L t n := by
  cases hx : atV L zeroK t n with
  | none => rw [rest_none h.one hx, rest_none h.one hx]
  | some X =>
    obtain ⟨x1, x2, x3⟩ := at_some_facts h.one h.ups hx
    have hr := h.rest t n
    by_cases hg : X.g = true
    · refine rest_none hr.one ((at_none_iff hr.one).2 fun Y hY => ?_)
      obtain ⟨y1, y2, y3⟩ := (rest_mem h.one hx).1 hY
      refine Classical.byContradiction fun hn => ?_
      rcases x3 Y y1 hn with e | e
      · exact y3 ⟨by rw [e]; exact ⟨rfl, rfl⟩, hg⟩
      · exact y2 e
    · have hXm : X ∈ restV L t n := (rest_mem h.one hx).2 ⟨x1, ltV_irr X, fun hc => hg hc.2⟩
      have ha : atV (restV L t n) zeroK t n = some X := at_is hr.one hr.ups hXm x2 fun Y hY hn => x3 Y ((rest_mem h.one hx).1 hY).1 hn
      refine ups_ext (hr.rest t n).ups hr.ups fun V => ?_
      rw [rest_mem hr.one ha]
      constructor
      · exact fun hc => hc.1
      · exact fun hc => ⟨hc, ((rest_mem h.one hx).1 hc).2⟩
theorem trim_at {L : List Ver} (h : Chn L) {s m t n : Int} (hst : ¬ ltS t n s m) : atV (restV L s m) zeroK t n = atV L zeroK t n ∨ (atV (restV L s m) zeroK t n = none ∧ ∃ X, atV L zeroK t n = some X ∧ X.g = true) := by
  cases hx : atV L zeroK s m with
  | none => rw [rest_none h.one hx]; exact .inl rfl
  | some X =>
    obtain ⟨x1, x2, x3⟩ := at_some_facts h.one h.ups hx
    have hr := h.rest s m
    have hxt : ¬ ltS t n X.t X.n := by unfold ltS at *; omega
    cases hy : atV L zeroK t n with
    | none => exact absurd ((at_none_iff h.one).1 hy X x1) hxt
    | some Y =>
      obtain ⟨y1, y2, y3⟩ := at_some_facts h.one h.ups hy
      by_cases hin : Y ∈ restV L s m
      · exact .inl (at_is hr.one hr.ups hin y2 fun Z hZ hn => y3 Z ((rest_mem h.one hx).1 hZ).1 hn)
      · have hXY : X = Y ∨ ltV X Y := y3 X x1 hxt
        have hne : ¬ ltV Y X := fun hc => by
          rcases hXY with e | e
          · rw [e] at hc; exact ltV_irr Y hc
          · exact ltV_irr Y (ltS_trans hc e)
        have hc : (Y.t = X.t ∧ Y.n = X.n) ∧ X.g = true := Classical.byContradiction fun hc => hin ((rest_mem h.one hx).2 ⟨y1, hne, hc⟩)
        have e := ups_same h.ups y1 x1 hc.1
        refine .inr ⟨(at_none_iff hr.one).2 fun Z hZ => ?_, Y, rfl, by rw [e]; exact hc.2⟩
        obtain ⟨z1, z2, z3⟩ := (rest_mem h.one hx).1 hZ
        refine Classical.byContradiction fun hn => ?_
        rcases y3 Z z1 hn with e' | e'
        · exact z3 ⟨by rw [e', e]; exact ⟨rfl, rfl⟩, hc.2⟩
        · rw [e] at e'; exact z2 e'
/-! ### Since -/
def sinceV (L : List Ver) (t n : Int) : Nat := (L.filter fun X => decide (0 < cmpS X.t X.n t n)).length
theorem since_le (L : List Ver) (t n : Int) : sinceV L t n ≤ L.length := List.length_filter_le _ _
theorem filter_less {α : Type} {p q : α → Bool} : ∀ {l : List α}, (∀ x ∈ l, q x = true → p x = true) → (l.filter q).length ≤ (l.filter p).length ∧ ((l.filter q).length < (l.filter p).length ↔ ∃ x ∈ l, p x = true ∧ q x = false)
  | [], _ => by simp
  | a :: r, h => by
    obtain ⟨h1, h2⟩ := filter_less (l := r) (fun x hx => h x (by simp [hx]))
    have ha := h a (by simp)
    rw [List.filter_cons, List.filter_cons]
    cases hq : q a <;> cases hp : p a
    · simp only [Bool.false_eq_true, if_false]
      refine ⟨h1, h2.trans ⟨fun ⟨x, hx, e⟩ => ⟨x, by simp [hx], e⟩, fun ⟨x, hx, e⟩ => ?_⟩⟩
      rcases List.mem_cons.1 hx with rfl | hx
      · rw [hp] at e; cases e.1
      · exact ⟨x, hx, e⟩
    · simp only [Bool.false_eq_true, if_false, if_true, List.length_cons]
      exact ⟨by omega, ⟨fun _ => ⟨a, by simp, hp, hq⟩, fun _ => by omega⟩⟩
    · rw [ha hq] at hp; cases hp
    · simp only [if_true, List.length_cons]
      refine ⟨by omega, ⟨fun hlt => ?_, fun ⟨x, hx, e⟩ => ?_⟩⟩
      · obtain ⟨x, hx, e⟩ := h2.1 (by omega)
        exact ⟨x, by simp [hx], e⟩
      · rcases List.mem_cons.1 hx with rfl | hx
        · rw [hq] at e; cases e.2
        · have := h2.2 ⟨x, hx, e⟩; omega
theorem since_between {L : List Ver} {a b c d : Int} (hab : ¬ ltS c d a b) : sinceV L c d < sinceV L a b ↔ ∃ X ∈ L, ltS a b X.t X.n ∧ ¬ ltS c d X.t X.n := by
  unfold sinceV
  rw [(filter_less (l := L) (p := fun X => decide (0 < cmpS X.t X.n a b)) (q := fun X => decide (0 < cmpS X.t X.n c d)) (fun x hx hq => ?_)).2]
  · constructor
    · rintro ⟨X, hX, h1, h2⟩
      exact ⟨X, hX, cmp_pos.1 (of_decide_eq_true h1), fun h => of_decide_eq_false h2 (cmp_pos.2 h)⟩
    · rintro ⟨X, hX, h1, h2⟩
      exact ⟨X, hX, decide_eq_true (cmp_pos.2 h1), decide_eq_false (fun h => h2 (cmp_pos.1 h))⟩
  · have := cmp_pos.1 (of_decide_eq_true hq)
    refine decide_eq_true (cmp_pos.2 ?_)
    unfold ltS at *
    omega
theorem since_at {L : List Ver} (h : One L) (hu : Ups L) {t n : Int} {X : Ver} (hx : atV L zeroK t n = some X) : sinceV L X.t X.n = sinceV L t n := by
  obtain ⟨x1, x2, x3⟩ := at_some_facts h hu hx
  unfold sinceV
  congr 1
  refine List.filter_congr fun Y hY => ?_
  rw [Bool.eq_iff_iff, decide_eq_true_iff, decide_eq_true_iff, cmp_pos, cmp_pos]
  constructor
  · intro hl
    refine Classical.byContradiction fun hn => ?_
    rcases x3 Y hY hn with e | e
    · rw [e] at hl; exact ltV_irr X hl
    · exact ltV_irr X (ltS_trans hl e)
  · intro hl
    unfold ltS at *
    omega
theorem at_between {L : List Ver} (h : One L) (hu : Ups L) {a b c d : Int} (hab : ¬ ltS c d a b) (hn : ¬ ∃ X ∈ L, ltS a b X.t X.n ∧ ¬ ltS c d X.t X.n) : atV L zeroK a b = atV L zeroK c d := by
  have key : ∀ X ∈ L, ¬ ltS c d X.t X.n → ¬ ltS a b X.t X.n := fun X hX hc ha => hn ⟨X, hX, ha, hc⟩
  have back : ∀ X : Ver, ¬ ltS a b X.t X.n → ¬ ltS c d X.t X.n := fun X hc ha => by unfold ltS at *; omega
  cases hx : atV L zeroK c d with
  | none =>
    refine (at_none_iff h).2 fun Y hY => ?_
    exact Classical.byContradiction fun hc => back Y hc ((at_none_iff h).1 hx Y hY)
  | some X =>
    obtain ⟨x1, x2, x3⟩ := at_some_facts h hu hx
    exact at_is h hu x1 (key X x1 x2) fun Y hY hc => x3 Y hY (back Y hc)
theorem at_later {L : List Ver} (h : One L) {a b c d : Int} (hab : ¬ ltS c d a b) (ha : (atV L zeroK a b).isSome = true) : (atV L zeroK c d).isSome = true := by
  cases hx : atV L zeroK c d with
  | some X => rfl
  | none =>
    have : atV L zeroK a b = none := (at_none_iff h).2 fun Y hY => by
      have := (at_none_iff h).1 hx Y hY
      unfold ltS at *
      omega
    rw [this] at ha
    cases ha
end Go.Proofs.Ytchcjdpajnbknab
