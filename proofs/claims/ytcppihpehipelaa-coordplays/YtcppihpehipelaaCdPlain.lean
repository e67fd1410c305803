/-
  Chapter 18 in plain words: whose votes are awaited, who owes, what a table of decisions keeps. No program is named here.
-/
import Derived.Test.YtcppihpehipelaaAu50
namespace Go.Proofs.Ytcppihpehipelaa
open Go.RowKit
set_option linter.unusedVariables false

/-- Those of a list that no truth stands beside. -/
def restD (l : List Int) (v : List Bool) : List Int := ((l.zip v).filter (fun x => !x.2)).map (fun x => x.1)
theorem restD_cons (a : Int) (l : List Int) (b : Bool) (v : List Bool) : restD (a :: l) (b :: v) = if b = true then restD l v else a :: restD l v := by
  unfold restD
  rw [List.zip_cons_cons, List.filter_cons]
  cases b <;> simp
theorem restD_sub : ∀ (l : List Int) (v : List Bool), ∀ x ∈ restD l v, x ∈ l
  | [], v, x, h => by simp [restD] at h
  | a :: l, [], x, h => by simp [restD] at h
  | a :: l, b :: v, x, h => by
    rw [restD_cons] at h
    split at h
    · exact List.mem_cons_of_mem _ (restD_sub l v x h)
    · rcases List.mem_cons.1 h with h | h
      · rw [h]; exact List.mem_cons_self
      · exact List.mem_cons_of_mem _ (restD_sub l v x h)
theorem restD_len : ∀ (l : List Int) (v : List Bool), (restD l v).length ≤ l.length
  | [], v => by simp [restD]
  | a :: l, [] => by simp [restD]
  | a :: l, b :: v => by
    rw [restD_cons]
    have := restD_len l v
    split <;> simp only [List.length_cons] <;> omega
theorem spotC_cons (a : Int) (l : List Int) (p : Int) : spotC (a :: l) p = if a = p then 0 else spotC l p + 1 := by
  unfold spotC
  rw [List.takeWhile_cons]
  by_cases e : a = p
  · simp [e]
  · simp [e]
theorem filterC_self {l : List Int} {p : Int} (h : p ∉ l) : l.filter (fun x => !decide (x = p)) = l := by
  rw [List.filter_eq_self]
  intro x hx
  have : x ≠ p := fun e => h (e ▸ hx)
  simp [this]
theorem restD_set : ∀ (l : List Int) (v : List Bool) (p : Int), l.Nodup → l.length = v.length → p ∈ l → (restD l v).filter (fun x => !decide (x = p)) = restD l (v.set (spotC l p) true)
  | [], v, p, _, _, h => by simp at h
  | a :: l, [], p, _, h, _ => by simp at h
  | a :: l, b :: v, p, hn, hl, hp => by
    obtain ⟨h1, h2⟩ := List.nodup_cons.1 hn
    rw [spotC_cons]
    by_cases e : a = p
    · subst e
      rw [if_pos rfl, List.set_cons_zero, restD_cons, restD_cons, if_pos rfl]
      have h3 : a ∉ restD l v := fun h => h1 (restD_sub l v a h)
      split
      · exact filterC_self h3
      · rw [List.filter_cons]
        simp only [decide_true, Bool.not_true, Bool.false_eq_true, if_false]
        exact filterC_self h3
    · rw [if_neg e, List.set_cons_succ, restD_cons, restD_cons]
      have ih := restD_set l v p h2 (by simpa using hl) (by rcases List.mem_cons.1 hp with h | h; exact absurd h.symm e; exact h)
      split
      · exact ih
      · rw [List.filter_cons]
        simp only [e, decide_false, Bool.not_false, if_true]
        rw [ih]
theorem restD_mem : ∀ (l : List Int) (v : List Bool) (p : Int), l.Nodup → l.length = v.length → p ∈ l → (p ∈ restD l v ↔ v.getD (spotC l p) false = false)
  | [], v, p, _, _, h => by simp at h
  | a :: l, [], p, _, h, _ => by simp at h
  | a :: l, b :: v, p, hn, hl, hp => by
    obtain ⟨h1, h2⟩ := List.nodup_cons.1 hn
    rw [spotC_cons]
    by_cases e : a = p
    · subst e
      rw [if_pos rfl, restD_cons]
      have h3 : a ∉ restD l v := fun h => h1 (restD_sub l v a h)
      cases b <;> simp [h3]
    · rw [if_neg e, restD_cons]
      have ih := restD_mem l v p h2 (by simpa using hl) (by rcases List.mem_cons.1 hp with h | h; exact absurd h.symm e; exact h)
      rw [List.getD_cons_succ]
      split
      · exact ih
      · rw [List.mem_cons]
        constructor
        · rintro (h | h)
          · exact absurd h.symm e
          · exact ih.1 h
        · exact fun h => .inr (ih.2 h)
theorem restD_nil : ∀ (l : List Int) (v : List Bool), l.length = v.length → (restD l v = [] ↔ v.all id = true)
  | [], [], _ => by simp [restD]
  | [], b :: v, h => by simp at h
  | a :: l, [], h => by simp at h
  | a :: l, b :: v, h => by
    rw [restD_cons, List.all_cons]
    have ih := restD_nil l v (by simpa using h)
    cases b with
    | true => simpa using ih
    | false => simp
theorem restD_fresh (l : List Int) : restD l (List.replicate l.length false) = l := owes_none l
theorem upP_above : ∀ {l : List Int} {p : Int}, upP p l = true → ∀ x ∈ l, p < x
  | [], p, _, x, hx => by simp at hx
  | a :: l, p, h, x, hx => by
    have h2 : (decide (p < a ∧ 0 ≤ a ∧ a ≤ 7) && upP a l) = true := h
    simp only [Bool.and_eq_true, decide_eq_true_eq] at h2
    rcases List.mem_cons.1 hx with e | e
    · rw [e]; exact h2.1.1
    · have := upP_above h2.2 x e; omega
theorem upP_nodup : ∀ {l : List Int} {p : Int}, upP p l = true → l.Nodup
  | [], p, _ => List.nodup_nil
  | a :: l, p, h => by
    have h2 : (decide (p < a ∧ 0 ≤ a ∧ a ≤ 7) && upP a l) = true := h
    simp only [Bool.and_eq_true, decide_eq_true_eq] at h2
    exact List.nodup_cons.2 ⟨fun hm => by have := upP_above h2.2 a hm; omega, upP_nodup h2.2⟩
theorem parts_nodup {l : List Int} (h : partsB l = true) : l.Nodup ∧ 0 < l.length := by
  unfold partsB at h
  simp only [Bool.and_eq_true, decide_eq_true_eq] at h
  exact ⟨upP_nodup h.1, h.2⟩
theorem parts_few {l : List Int} (h : partsB l = true) : l.length ≤ 8 := by
  unfold partsB at h
  simp only [Bool.and_eq_true, decide_eq_true_eq] at h
  have := upP_few h.1 (by omega) (by omega)
  omega
/-- Whose votes are awaited. -/
def awaitsD (d : DecC) : List Int := if d.how = 0 then restD d.parts d.votes else []
/-- What calls keep of each, and what the landed way of keeping them asks besides. -/
structure DecL (d : DecC) : Prop where
  k : DecK d
  open_ : d.how = 0 → d.votes.all id = false
  fresh : d.how = 0 → d.acks = List.replicate d.parts.length false
  an : 0 ≤ d.an ∧ d.an ≤ 255
theorem owesD_rest (d : DecC) : owesD d = restD d.parts d.acks := rfl
theorem DecL.new {id st sn : Int} {l : List Int} (h : ¬ (id < 1 ∨ ¬ okS st ∨ partsB l = false)) : DecL (newC id st sn l) := by
  have hk := DecK.new (sn := sn) h
  have hp := (parts_nodup hk.parts).2
  refine ⟨hk, fun _ => ?_, fun _ => rfl, by show (0 : Int) ≤ 0; omega, by show (0 : Int) ≤ 255; omega⟩
  show (List.replicate l.length false).all _ = false
  obtain ⟨n, hn⟩ : ∃ n, l.length = n + 1 := ⟨l.length - 1, by have : 0 < l.length := hp; omega⟩
  simp [hn, List.replicate_succ]
theorem DecL.said {r : Rcd} (h : goodR r = true) (h4 : r.kd = 4) (hn : 0 ≤ r.n ∧ r.n ≤ 255) : DecL (saidC r) := by
  unfold goodR at h
  rw [h4] at h
  simp only [show ¬ ((4 : Int) = 1) from by omega, show ¬ ((4 : Int) = 2) from by omega, show ¬ ((4 : Int) = 3) from by omega, if_false, if_true, Bool.and_eq_true, decide_eq_true_eq, Bool.or_eq_true] at h
  obtain ⟨⟨⟨⟨h1, h2⟩, h3⟩, h5⟩, h6⟩ := h
  have hh : (saidC r).how = if r.y = true then 1 else 2 := rfl
  have h0 : (saidC r).how ≠ 0 := by rw [hh]; split <;> omega
  refine ⟨⟨h1, okS_zero, h3, by simp [saidC], by simp [saidC], ?_, h5, fun e => ?_⟩, fun e => absurd e h0, fun e => absurd e h0, hn⟩
  · rw [hh]; split
    · exact .inr (.inl rfl)
    · exact .inr (.inr rfl)
  · rw [hh] at e
    split at e
    · omega
    · rename_i hy
      rcases h6 with h6 | h6
      · exact absurd h6 hy
      · exact h6
theorem DecL.nodup {d : DecC} (h : DecL d) : d.parts.Nodup ∧ 0 < d.parts.length ∧ d.parts.length ≤ 8 := ⟨(parts_nodup h.k.parts).1, (parts_nodup h.k.parts).2, parts_few h.k.parts⟩
theorem mxS_n {t n t' n' : Int} (h : 0 ≤ n ∧ n ≤ 255) (h' : 0 ≤ n' ∧ n' ≤ 255) : 0 ≤ (mxS t n t' n').2 ∧ (mxS t n t' n').2 ≤ 255 := by
  unfold mxS
  split
  · exact h'
  · exact h
theorem DecL.noD {d : DecC} (h : DecL d) : DecL (noD d) := ⟨h.k.noD, fun e => by simp [Go.Proofs.Ytcppihpehipelaa.noD] at e, fun e => by simp [Go.Proofs.Ytcppihpehipelaa.noD] at e, by show (0 : Int) ≤ 0; omega, by show (0 : Int) ≤ 255; omega⟩
theorem DecL.yesD {d : DecC} (h : DecL d) (h0 : d.how = 0) (k : Nat) {t n : Int} (ht : okS t) (hn : 0 ≤ n ∧ n ≤ 255) : DecL (yesD d k t n) := by
  refine ⟨h.k.yesD k ht, fun e => ?_, fun _ => h.fresh h0, mxS_n h.an hn⟩
  have e2 : (if (d.votes.set k true).all _root_.id then (1 : Int) else 0) = 0 := e
  show (d.votes.set k true).all _root_.id = false
  split at e2
  · omega
  · rename_i h2; simpa using h2
theorem DecL.ackD {d : DecC} (h : DecL d) (p : Int) : DecL (ackD d p).2 := by
  refine ⟨h.k.ackD p, ?_, ?_, ?_⟩ <;> (unfold Go.Proofs.Ytcppihpehipelaa.ackD; split)
  · exact h.open_
  · split
    · exact h.open_
    · exact fun e => h.open_ e
  · exact h.fresh
  · split
    · exact h.fresh
    · rename_i h0; exact fun e => absurd e h0
  · exact h.an
  · split
    · exact h.an
    · exact h.an
/-- A part's vote is awaited just if it is not decided, and it has not voted. -/
theorem awaits_has {d : DecC} (h : DecL d) {p : Int} (hp : hasP d.parts p = true) : (awaitsD d).contains p = !(decide (d.how ≠ 0) || d.votes.getD (spotC d.parts p) false) := by
  have hm := hasP_iff.1 hp
  unfold awaitsD
  by_cases h0 : d.how = 0
  · rw [if_pos h0]
    have := restD_mem d.parts d.votes p h.nodup.1 h.k.votes.symm hm
    rw [show decide (d.how ≠ 0) = false from decide_eq_false (fun e => e h0), Bool.false_or]
    rw [Bool.eq_iff_iff, List.contains_iff_mem, this]
    cases d.votes.getD (spotC d.parts p) false <;> simp
  · rw [if_neg h0, show decide (d.how ≠ 0) = true from decide_eq_true h0]
    simp
theorem awaits_nil {d : DecC} (h : DecL d) : awaitsD d = [] ↔ d.how ≠ 0 := by
  unfold awaitsD
  by_cases h0 : d.how = 0
  · rw [if_pos h0, restD_nil d.parts d.votes h.k.votes.symm, h.open_ h0]
    simp [h0]
  · rw [if_neg h0]; simp [h0]
theorem awaits_len {d : DecC} (h : DecL d) : (awaitsD d).length ≤ 8 := by
  have h1 := h.nodup.2.2
  unfold awaitsD
  split
  · have := restD_len d.parts d.votes; omega
  · simp
theorem owes_len {d : DecC} (h : DecL d) : (owesD d).length ≤ 8 := by
  have h1 := h.nodup.2.2
  have := restD_len d.parts d.acks
  rw [owesD_rest]; omega
/-- A yes: whose votes are awaited then. -/
theorem awaits_yes {d : DecC} (h : DecL d) (h0 : d.how = 0) {p : Int} (hp : hasP d.parts p = true) (t n : Int) : (awaitsD d).filter (fun x => !decide (x = p)) = awaitsD (yesD d (spotC d.parts p) t n) ∧ ((yesD d (spotC d.parts p) t n).how = if (awaitsD (yesD d (spotC d.parts p) t n)).length = 0 then 1 else 0) := by
  have hm := hasP_iff.1 hp
  have h1 := restD_set d.parts d.votes p h.nodup.1 h.k.votes.symm hm
  have h2 := restD_nil d.parts (d.votes.set (spotC d.parts p) true) (by rw [List.length_set]; exact h.k.votes.symm)
  have hh : (yesD d (spotC d.parts p) t n).how = if (d.votes.set (spotC d.parts p) true).all id then 1 else 0 := rfl
  have e1 : awaitsD d = restD d.parts d.votes := if_pos h0
  have e2 : awaitsD (yesD d (spotC d.parts p) t n) = restD d.parts (d.votes.set (spotC d.parts p) true) := by
    unfold awaitsD
    rw [hh]
    cases ha : (d.votes.set (spotC d.parts p) true).all id with
    | true => rw [if_neg (by simp)]; exact (h2.2 ha).symm
    | false => exact if_pos (by simp)
  rw [e1, e2, h1]
  refine ⟨rfl, ?_⟩
  rw [hh]
  by_cases ha : (d.votes.set (spotC d.parts p) true).all id = true
  · rw [if_pos ha, if_pos (by rw [h2.2 ha]; rfl)]
  · rw [if_neg ha, if_neg (fun e => ha (h2.1 (List.eq_nil_of_length_eq_zero e)))]
/-- A part that has done it. -/
theorem owes_ack {d : DecC} (h : DecL d) {p : Int} (hp : hasP d.parts p = true) : (owesD d).filter (fun x => !decide (x = p)) = restD d.parts (d.acks.set (spotC d.parts p) true) := by
  rw [owesD_rest]
  exact restD_set d.parts d.acks p h.nodup.1 h.k.acks.symm (hasP_iff.1 hp)
theorem owes_open {d : DecC} (h : DecL d) (h0 : d.how = 0) : owesD d = d.parts := by
  rw [owesD_rest, h.fresh h0]
  exact restD_fresh d.parts
theorem opens_owes {d : DecC} (h : DecL d) : (decide (d.how = 0) || decide (0 < (owesD d).length)) = decide (0 < (owesD d).length) := by
  by_cases h0 : d.how = 0
  · rw [owes_open h h0, decide_eq_true h.nodup.2.1, Bool.or_true]
  · rw [decide_eq_false h0, Bool.false_or]
theorem voteD_ways {d : DecC} (h : DecL d) (p : Int) (y : Bool) (t n : Int) (hn : 0 ≤ n ∧ n ≤ 255) : DecL (voteD d p y t n).2 ∧ (voteD d p y t n).2.id = d.id := by
  unfold voteD
  split
  · exact ⟨h, rfl⟩
  split
  · exact ⟨h, rfl⟩
  rename_i h2
  split
  · exact ⟨h, rfl⟩
  rename_i h3
  split
  · exact ⟨h.noD, rfl⟩
  rename_i hy
  refine ⟨h.yesD (Classical.byContradiction fun e => h3 (.inl e)) _ (Classical.byContradiction fun e => h2 ⟨?_, .inl e⟩) hn, rfl⟩
  cases y with
  | true => rfl
  | false => exact absurd rfl hy
theorem ackD_id (d : DecC) (p : Int) : (ackD d p).2.id = d.id := by
  unfold ackD
  split
  · rfl
  · split <;> rfl
/-! The table -/
structure TblC (C : List DecC) : Prop where
  sorted : C.Pairwise (fun x y => x.id < y.id)
  each : ∀ d ∈ C, DecL d
  ids : ∀ d ∈ C, d.id ≤ 9223372036854775807
theorem TblC.nil : TblC [] := ⟨List.Pairwise.nil, fun d h => by simp at h, fun d h => by simp at h⟩
theorem findC_at {C : List DecC} (hs : C.Pairwise (fun x y => x.id < y.id)) {i : Nat} {d : DecC} (h : C[i]? = some d) : findC C d.id = i := by
  unfold findC
  have hi := (List.getElem?_eq_some_iff.1 h).1
  have e : C.takeWhile (fun x => decide (x.id ≠ d.id)) = C.take i := by
    have hc : C = C.take i ++ C.drop i := (List.take_append_drop i C).symm
    have hd : C.drop i = d :: C.drop (i + 1) := by
      rw [List.drop_eq_getElem_cons hi]
      congr 1
      exact (List.getElem?_eq_some_iff.1 h).2
    conv => lhs; rw [hc]
    rw [List.takeWhile_append_of_pos, hd, List.takeWhile_cons]
    · simp
    · intro x hx
      obtain ⟨j, hj⟩ := List.mem_iff_getElem?.1 hx
      rw [List.getElem?_take] at hj
      split at hj
      · rename_i hji
        have hlt := (List.pairwise_iff_getElem.1 hs) j i (by omega) hi hji
        have e1 : C[j] = x := by have := (List.getElem?_eq_some_iff.1 hj).2; exact this
        have e2 : C[i] = d := (List.getElem?_eq_some_iff.1 h).2
        rw [e1, e2] at hlt
        exact decide_eq_true (by omega)
      · cases hj
  rw [e, List.length_take]
  omega
theorem findC_hits : ∀ {C : List DecC} {id : Int} {d : DecC}, C[findC C id]? = some d → d.id = id
  | [], id, d, h => by simp at h
  | a :: r, id, d, h => by
    unfold findC at h
    rw [List.takeWhile_cons] at h
    by_cases e : a.id = id
    · simp [e] at h
      rw [← h]; exact e
    · rw [if_pos (decide_eq_true e), List.length_cons, List.getElem?_cons_succ] at h
      exact findC_hits h
theorem getC_iff {C : List DecC} (hs : C.Pairwise (fun x y => x.id < y.id)) {id : Int} {d : DecC} : getC C id = some d ↔ d ∈ C ∧ d.id = id := by
  constructor
  · intro h
    unfold getC at h
    have hm := List.mem_of_getElem? h
    refine ⟨hm, ?_⟩
    have hi := (List.getElem?_eq_some_iff.1 h).1
    exact findC_hits h
  · rintro ⟨hm, rfl⟩
    obtain ⟨i, hi⟩ := List.mem_iff_getElem?.1 hm
    unfold getC
    rw [findC_at hs hi]
    exact hi
theorem getC_no {C : List DecC} (hs : C.Pairwise (fun x y => x.id < y.id)) {id : Int} : getC C id = none ↔ ∀ d ∈ C, d.id ≠ id := by
  constructor
  · intro h d hd e
    have := (getC_iff hs).2 ⟨hd, e⟩
    rw [h] at this; cases this
  · intro h
    cases hg : getC C id with
    | none => rfl
    | some d =>
      have := (getC_iff hs).1 hg
      exact absurd this.2 (h d this.1)
/-- Where a new one is laid. -/
theorem layC_split (x : DecC) : ∀ {C : List DecC}, C.Pairwise (fun x y => x.id < y.id) → (∀ d ∈ C, d.id ≠ x.id) → ∃ A B, C = A ++ B ∧ layC C x = A ++ x :: B ∧ (∀ d ∈ A, d.id < x.id) ∧ (∀ d ∈ B, x.id < d.id) ∧ (C.takeWhile (fun y => decide (y.id < x.id))).length = A.length
  | [], _, _ => ⟨[], [], rfl, rfl, fun d h => by simp at h, fun d h => by simp at h, rfl⟩
  | a :: r, hs, hn => by
    obtain ⟨h1, h2⟩ := List.pairwise_cons.1 hs
    by_cases e : a.id < x.id
    · obtain ⟨A, B, e1, e2, e3, e4, e5⟩ := layC_split x h2 (fun d hd => hn d (List.mem_cons_of_mem _ hd))
      refine ⟨a :: A, B, by rw [e1]; rfl, ?_, fun d hd => ?_, e4, ?_⟩
      · unfold layC at e2 ⊢
        rw [List.takeWhile_cons, if_pos (decide_eq_true e), List.length_cons, List.drop_succ_cons, List.cons_append, e2]
        rfl
      · rcases List.mem_cons.1 hd with h | h
        · rw [h]; exact e
        · exact e3 d h
      · rw [List.takeWhile_cons, if_pos (decide_eq_true e), List.length_cons, List.length_cons, e5]
    · have hax : x.id < a.id := by have := hn a List.mem_cons_self; omega
      refine ⟨[], a :: r, rfl, ?_, fun d h => by simp at h, fun d hd => ?_, ?_⟩
      · unfold layC
        rw [List.takeWhile_cons, if_neg (by simp; omega)]
        rfl
      · rcases List.mem_cons.1 hd with h | h
        · rw [h]; exact hax
        · have := h1 d h; omega
      · rw [List.takeWhile_cons, if_neg (by simp; omega)]
theorem layC_mem {C : List DecC} {x : DecC} (hs : C.Pairwise (fun x y => x.id < y.id)) (hn : ∀ d ∈ C, d.id ≠ x.id) (d : DecC) : d ∈ layC C x ↔ d = x ∨ d ∈ C := by
  obtain ⟨A, B, e1, e2, _⟩ := layC_split x hs hn
  rw [e2, e1, List.mem_append, List.mem_cons, List.mem_append]
  constructor
  · rintro (h | h | h)
    · exact .inr (.inl h)
    · exact .inl h
    · exact .inr (.inr h)
  · rintro (h | h | h)
    · exact .inr (.inl h)
    · exact .inl h
    · exact .inr (.inr h)
theorem layC_sorted {C : List DecC} {x : DecC} (hs : C.Pairwise (fun x y => x.id < y.id)) (hn : ∀ d ∈ C, d.id ≠ x.id) : (layC C x).Pairwise (fun x y => x.id < y.id) := by
  obtain ⟨A, B, e1, e2, e3, e4, _⟩ := layC_split x hs hn
  rw [e2]
  rw [e1] at hs
  obtain ⟨h1, h2, h3⟩ := List.pairwise_append.1 hs
  refine List.pairwise_append.2 ⟨h1, List.pairwise_cons.2 ⟨e4, h2⟩, fun a ha b hb => ?_⟩
  rcases List.mem_cons.1 hb with e | e
  · rw [e]; exact e3 a ha
  · exact h3 a ha b e
theorem layC_len {C : List DecC} {x : DecC} (hs : C.Pairwise (fun x y => x.id < y.id)) (hn : ∀ d ∈ C, d.id ≠ x.id) : (layC C x).length = C.length + 1 := by
  obtain ⟨A, B, e1, e2, _⟩ := layC_split x hs hn
  rw [e2, e1]; simp; omega
theorem TblC.lay {C : List DecC} {x : DecC} (h : TblC C) (hn : getC C x.id = none) (hx : DecL x) (hi : x.id ≤ 9223372036854775807) : TblC (layC C x) := by
  have hn := (getC_no h.sorted).1 hn
  refine ⟨layC_sorted h.sorted hn, fun d hd => ?_, fun d hd => ?_⟩
  · rcases (layC_mem h.sorted hn d).1 hd with e | e
    · rw [e]; exact hx
    · exact h.each d e
  · rcases (layC_mem h.sorted hn d).1 hd with e | e
    · rw [e]; exact hi
    · exact h.ids d e
/-- One of them turns. -/
theorem putC_set {C : List DecC} (hs : C.Pairwise (fun x y => x.id < y.id)) {i : Nat} {d x : DecC} (h : C[i]? = some d) (hx : x.id = d.id) : putC C x = C.set i x := by
  unfold putC
  rw [hx, findC_at hs h]
theorem setC_sorted : ∀ {C : List DecC} {i : Nat} {d x : DecC}, C.Pairwise (fun x y => x.id < y.id) → C[i]? = some d → x.id = d.id → (C.set i x).Pairwise (fun x y => x.id < y.id)
  | [], i, d, x, _, h, _ => by simp at h
  | a :: r, 0, d, x, hs, h, hx => by
    obtain ⟨h1, h2⟩ := List.pairwise_cons.1 hs
    simp at h
    subst h
    exact List.pairwise_cons.2 ⟨fun y hy => by rw [hx]; exact h1 y hy, h2⟩
  | a :: r, i + 1, d, x, hs, h, hx => by
    obtain ⟨h1, h2⟩ := List.pairwise_cons.1 hs
    rw [List.getElem?_cons_succ] at h
    refine List.pairwise_cons.2 ⟨fun y hy => ?_, setC_sorted h2 h hx⟩
    rcases List.mem_or_eq_of_mem_set hy with hy | hy
    · exact h1 y hy
    · rw [hy, hx]; exact h1 d (List.mem_of_getElem? h)
theorem putC_mem {C : List DecC} (hs : C.Pairwise (fun x y => x.id < y.id)) {i : Nat} {d x y : DecC} (h : C[i]? = some d) (hx : x.id = d.id) : y ∈ putC C x ↔ y = x ∨ (y ∈ C ∧ y.id ≠ d.id) := by
  have hs2 := setC_sorted hs h hx
  have hi := (List.getElem?_eq_some_iff.1 h).1
  rw [putC_set hs h hx]
  constructor
  · intro hy
    obtain ⟨j, hj⟩ := List.mem_iff_getElem?.1 hy
    rw [List.getElem?_set] at hj
    split at hj
    · rename_i e
      subst e
      first
        | (injection hj with hj; exact .inl hj.symm)
        | (split at hj
           · injection hj with hj; exact .inl hj.symm
           · cases hj)
    · rename_i e
      refine .inr ⟨List.mem_of_getElem? hj, fun e2 => e ?_⟩
      have := findC_at hs hj
      rw [e2, findC_at hs h] at this
      exact this
  · rintro (e | ⟨hy, hn⟩)
    · rw [e]; exact List.mem_of_getElem? (List.getElem?_set_self hi)
    · obtain ⟨j, hj⟩ := List.mem_iff_getElem?.1 hy
      refine List.mem_of_getElem? (i := j) ?_
      rw [List.getElem?_set_ne (fun e => hn ?_)]
      · exact hj
      · subst e; rw [h] at hj; injection hj with hj; rw [hj]
theorem TblC.put {C : List DecC} (h : TblC C) {i : Nat} {d x : DecC} (hi : C[i]? = some d) (hx : x.id = d.id) (hk : DecL x) : TblC (putC C x) := by
  refine ⟨by rw [putC_set h.sorted hi hx]; exact setC_sorted h.sorted hi hx, fun y hy => ?_, fun y hy => ?_⟩
  · rcases (putC_mem h.sorted hi hx).1 hy with e | e
    · rw [e]; exact hk
    · exact h.each y e.1
  · rcases (putC_mem h.sorted hi hx).1 hy with e | e
    · rw [e, hx]; exact h.ids d (List.mem_of_getElem? hi)
    · exact h.ids y e.1
theorem putC_len (C : List DecC) (x : DecC) : (putC C x).length = C.length := by unfold putC; rw [List.length_set]
theorem set_selfC {α : Type} : ∀ {l : List α} {i : Nat} {a : α}, l[i]? = some a → l.set i a = l
  | [], i, a, h => by simp at h
  | b :: r, 0, a, h => by simp at h; rw [List.set_cons_zero, h]
  | b :: r, i + 1, a, h => by rw [List.getElem?_cons_succ] at h; rw [List.set_cons_succ, set_selfC h]
theorem putC_same {C : List DecC} (hs : C.Pairwise (fun x y => x.id < y.id)) {i : Nat} {d : DecC} (h : C[i]? = some d) : putC C d = C := by
  rw [putC_set hs h rfl]
  exact set_selfC h
theorem getC_at {C : List DecC} {id : Int} {d : DecC} (h : getC C id = some d) : ∃ i : Nat, C[i]? = some d ∧ d.id = id := ⟨findC C id, h, findC_hits h⟩
/-- Those that are not over. -/
theorem openC_owes {C : List DecC} (h : TblC C) : openC C = (C.filter (fun d => decide (0 < (owesD d).length))).map (fun d => d.id) := by
  unfold openC
  congr 1
  exact List.filter_congr (fun d hd => opens_owes (h.each d hd))
theorem openC_up {C : List DecC} (h : TblC C) : (openC C).Pairwise (fun x y => x < y) := by
  unfold openC
  rw [List.pairwise_map]
  exact h.sorted.filter _
end Go.Proofs.Ytcppihpehipelaa
