/-
  Records in bytes, read piece by piece with a bound for each: the same as chapter 14's own reading. No program is named here.
-/
import Derived.Test.YtmiafadmcpmjgaaRecPlain
namespace Go.Proofs.Ytmiafadmcpmjgaa
set_option linter.unusedVariables false

def flagP : Pr Bool := seqP (countP 1) fun v => retP (decide (v = 1))
def txtP : Pr (List Int) := seqP (countP 200) fun n => bytesP n
def wrP : Pr Wrt := seqP (bytesP 16) fun k => seqP flagP fun g => seqP txtP fun v => retP ⟨k, v, g⟩
def wrsP : Pr (List Wrt) := seqP (countP 16) fun n => manyP wrP n.toNat
def tlP (kd id : Int) : Pr Rcd :=
  if kd = 1 then seqP stampP fun a => seqP stampP fun b => seqP wrsP fun l => retP ⟨kd, id, a.1, a.2, b.1, b.2, l, false, []⟩
  else if kd = 2 ∨ kd = 5 then seqP stampP fun b => retP ⟨kd, id, 0, 0, b.1, b.2, [], false, []⟩
  else if kd = 4 then seqP flagP fun y => seqP stampP fun b => seqP partsP fun ps => retP ⟨kd, id, 0, 0, b.1, b.2, [], y, ps⟩
  else retP ⟨kd, id, 0, 0, 0, 0, [], false, []⟩
def rcP : Pr Rcd := seqP (countP 5) fun kd => seqP numP fun z => tlP kd (Pl.zagI z)
def getL (zs : List Int) : Option Rcd := match rcP zs with
  | some (r, []) => if goodR r = true then some r else none
  | _ => none

abbrev Bys (zs : List Int) : Prop := ∀ z ∈ zs, 0 ≤ z ∧ z ≤ 255
theorem Bys.drop {zs : List Int} (h : Bys zs) (n : Nat) : Bys (zs.drop n) := fun z hz => h z (List.mem_of_mem_drop hz)
/-- What is left of bytes is bytes. -/
def Keeps {α : Type} (p : Pr α) : Prop := ∀ zs a r, Bys zs → p zs = some (a, r) → Bys r
theorem Keeps.seq {α β : Type} {p : Pr α} {f : α → Pr β} (hp : Keeps p) (hf : ∀ a, Keeps (f a)) : Keeps (seqP p f) := by
  intro zs b r hz h
  cases e : p zs with
  | none => rw [seq_none e] at h; simp at h
  | some x =>
    obtain ⟨a, s⟩ := x
    rw [seq_some e] at h
    exact hf a _ _ _ (hp _ _ _ hz e) h
theorem Keeps.ret {α : Type} (a : α) : Keeps (retP a) := by
  intro zs b r hz h
  simp [retP] at h
  obtain ⟨_, rfl⟩ := h
  exact hz
theorem Keeps.no {α : Type} : Keeps (noneP (α := α)) := by intro zs b r hz h; simp [noneP] at h
theorem ite_keeps {α : Type} (c : Prop) [Decidable c] {p q : Pr α} (hp : Keeps p) (hq : Keeps q) : Keeps (if c then p else q) := by
  by_cases h : c
  · rw [if_pos h]; exact hp
  · rw [if_neg h]; exact hq
theorem numP_keeps : Keeps numP := by
  intro zs a r hz h
  unfold numP at h
  by_cases e : (Pl.getI zs).2.2 = 0
  · rw [if_pos e] at h
    simp only [Option.some.injEq, Prod.mk.injEq] at h
    rw [← h.2]
    exact hz.drop _
  · rw [if_neg e] at h; simp at h
theorem bytesP_keeps (n : Int) : Keeps (bytesP n) := by
  intro zs a r hz h
  unfold bytesP at h
  by_cases e : (zs.length : Int) < n
  · rw [if_pos e] at h; simp at h
  · rw [if_neg e] at h
    simp only [Option.some.injEq, Prod.mk.injEq] at h
    rw [← h.2]
    exact hz.drop _
theorem countP_keeps (n : Int) : Keeps (countP n) := numP_keeps.seq fun c => ite_keeps _ .no (.ret _)
theorem flagP_keeps : Keeps flagP := (countP_keeps 1).seq fun _ => .ret _
theorem txtP_keeps : Keeps txtP := (countP_keeps 200).seq fun n => bytesP_keeps n
theorem wrP_keeps : Keeps wrP := (bytesP_keeps 16).seq fun _ => flagP_keeps.seq fun _ => txtP_keeps.seq fun _ => .ret _
theorem stampP_keeps : Keeps stampP := numP_keeps.seq fun c => ite_keeps _ (.ret _) .no

theorem getF_ge (f : Nat) : ∀ (X : Int) (k : Nat) (zs : List Int), 1 ≤ k → 0 ≤ X → Bys zs → (Pl.getF f X k zs).2.2 = 0 → (2 : Int) ^ (7 * k) ≤ (Pl.getF f X k zs).1 := by
  induction f with
  | zero => intro X k zs _ _ _ h; simp [Pl.getF] at h
  | succ f ih =>
    intro X k zs hk hX hz h
    cases zs with
    | nil => simp [Pl.getF] at h
    | cons c r =>
      have hc := hz c (by simp)
      have hp : (0 : Int) < 2 ^ (7 * k) := Int.pow_pos (by omega)
      by_cases h1 : c < 128
      · by_cases hg : Pl.goodB c k = true
        · rw [Pl.get_end h1 hg]
          show 2 ^ (7 * k) ≤ X + c * 2 ^ (7 * k)
          have h0 : c ≠ 0 := by
            intro e
            unfold Pl.goodB at hg
            rw [e] at hg
            simp at hg
            omega
          have : 1 * 2 ^ (7 * k) ≤ c * 2 ^ (7 * k) := Int.mul_le_mul_of_nonneg_right (by omega) (by omega)
          omega
        · rw [Pl.get_bad h1 (by simpa using hg)] at h; simp at h
      · rw [Pl.get_more (by omega)] at h ⊢
        have h0 : 0 ≤ c % 128 * 2 ^ (7 * k) := Int.mul_nonneg (by omega) (by omega)
        have := ih _ (k + 1) r (by omega) (by omega) (fun z hz' => hz z (by simp [hz'])) h
        refine Int.le_trans ?_ this
        have e : (2 : Int) ^ (7 * (k + 1)) = 2 ^ (7 * k) * 128 := by rw [show 7 * (k + 1) = 7 * k + 7 by omega, Int.pow_add]; rfl
        rw [e]; omega
theorem flag_bool {zs : List Int} (h : Bys zs) : flagP zs = boolP zs := by
  cases zs with
  | nil => rfl
  | cons c r =>
    have hc := h c (by simp)
    unfold boolP
    rw [seq_some (show byteP (c :: r) = some (c, r) from rfl)]
    by_cases h1 : c < 128
    · have e : numP (c :: r) = some (c, r) := by
        unfold numP Pl.getI
        rw [Pl.get_end h1 (by simp [Pl.goodB])]
        simp
      unfold flagP countP
      by_cases h2 : 1 < c
      · rw [if_pos h2, seq_none]; · rfl
        rw [seq_some e, if_pos h2]; rfl
      · rw [if_neg h2, seq_some (a := c) (r := r)]
        rw [seq_some e, if_neg h2]; rfl
    · rw [if_pos (by omega)]
      refine seq_none ?_
      cases e : numP (c :: r) with
      | none => exact seq_none e
      | some x =>
        obtain ⟨v, s⟩ := x
        have hv : 1 < v := by
          unfold numP at e
          by_cases e0 : (Pl.getI (c :: r)).2.2 = 0
          · rw [if_pos e0] at e
            simp only [Option.some.injEq, Prod.mk.injEq] at e
            have e1 := e.1
            unfold Pl.getI at e0 e1
            rw [Pl.get_more (by omega)] at e0 e1
            have := getF_ge 9 _ 1 r (by omega) (by simp; omega) (fun z hz' => h z (by simp [hz'])) e0
            rw [← e1]
            simp at this ⊢
            omega
          · rw [if_neg e0] at e; simp at e
        unfold countP
        rw [seq_some e, if_pos hv]; rfl
/-- Read the same, with a bound. -/
theorem txt_text {zs r v : List Int} (h : txtP zs = some (v, r)) : textP zs = some (v, r) ∧ v.length ≤ 200 := by
  unfold txtP countP at h
  cases e : numP zs with
  | none => rw [seq_none (seq_none e)] at h; simp at h
  | some x =>
    obtain ⟨n, s⟩ := x
    by_cases hn : 200 < n
    · rw [seq_none (by rw [seq_some e, if_pos hn]; rfl)] at h; simp at h
    · rw [seq_some (by rw [seq_some e, if_neg hn]; rfl)] at h
      refine ⟨by unfold textP; rw [seq_some e]; exact h, ?_⟩
      unfold bytesP at h
      by_cases c : (s.length : Int) < n
      · rw [if_pos c] at h; simp at h
      · rw [if_neg c] at h
        simp only [Option.some.injEq, Prod.mk.injEq] at h
        rw [← h.1, List.length_take]; omega
theorem text_txt {zs r v : List Int} (h0 : Bys zs) (h : textP zs = some (v, r)) (hv : v.length ≤ 200) : txtP zs = some (v, r) := by
  unfold textP at h
  cases e : numP zs with
  | none => rw [seq_none e] at h; simp at h
  | some x =>
    obtain ⟨n, s⟩ := x
    rw [seq_some e] at h
    have hn : ¬ 200 < n := by
      unfold bytesP at h
      by_cases c : (s.length : Int) < n
      · rw [if_pos c] at h; simp at h
      · rw [if_neg c] at h
        simp only [Option.some.injEq, Prod.mk.injEq] at h
        rw [← h.1, List.length_take] at hv; omega
    unfold txtP countP
    rw [seq_some (by rw [seq_some e, if_neg hn]; rfl)]
    exact h
theorem seq_congr {α β : Type} {p q : Pr α} {f : α → Pr β} {zs : List Int} (h : p zs = q zs) : seqP p f zs = seqP q f zs := by unfold seqP; rw [h]
theorem seq_inv {α β : Type} {p : Pr α} {f : α → Pr β} {zs r : List Int} {b : β} (h : seqP p f zs = some (b, r)) : ∃ a s, p zs = some (a, s) ∧ f a s = some (b, r) := by
  cases e : p zs with
  | none => rw [seq_none e] at h; simp at h
  | some x => exact ⟨x.1, x.2, rfl, by rw [seq_some e] at h; exact h⟩
theorem ret_inv {α : Type} {a b : α} {zs r : List Int} (h : retP a zs = some (b, r)) : b = a ∧ r = zs := by
  simp [retP] at h
  exact ⟨h.1.symm, h.2.symm⟩
theorem wr_write {zs r : List Int} {W : Wrt} (h0 : Bys zs) (h : wrP zs = some (W, r)) : writeP zs = some (W, r) ∧ W.v.length ≤ 200 := by
  obtain ⟨k, s, e1, h⟩ := seq_inv h
  have hs := bytesP_keeps _ _ _ _ h0 e1
  obtain ⟨g, s2, e2, h⟩ := seq_inv h
  rw [flag_bool hs] at e2
  obtain ⟨v, s3, e3, h⟩ := seq_inv h
  obtain ⟨rfl, rfl⟩ := ret_inv h
  obtain ⟨h1, h2⟩ := txt_text e3
  refine ⟨?_, h2⟩
  unfold writeP
  rw [seq_some e1, seq_some e2, seq_some h1]; rfl
theorem boolP_keeps : ∀ zs a r, Bys zs → boolP zs = some (a, r) → Bys r := fun zs a r hz h => by
  rw [← flag_bool hz] at h
  exact flagP_keeps _ _ _ hz h
theorem write_wr {zs r : List Int} {W : Wrt} (h0 : Bys zs) (h : writeP zs = some (W, r)) (hv : W.v.length ≤ 200) : wrP zs = some (W, r) := by
  obtain ⟨k, s, e1, h⟩ := seq_inv h
  have hs := bytesP_keeps _ _ _ _ h0 e1
  obtain ⟨g, s2, e2, h⟩ := seq_inv h
  have hs2 := boolP_keeps _ _ _ hs e2
  rw [← flag_bool hs] at e2
  obtain ⟨v, s3, e3, h⟩ := seq_inv h
  obtain ⟨rfl, rfl⟩ := ret_inv h
  have h1 := text_txt hs2 e3 hv
  unfold wrP
  rw [seq_some e1, seq_some e2, seq_some h1]; rfl
theorem many_wr : ∀ (n : Nat) {zs r : List Int} {l : List Wrt}, Bys zs → (manyP wrP n zs = some (l, r) ↔ manyP writeP n zs = some (l, r) ∧ ∀ W ∈ l, W.v.length ≤ 200)
  | 0, zs, r, l, hz => by
    refine ⟨fun h => ⟨h, ?_⟩, fun h => h.1⟩
    obtain ⟨rfl, _⟩ := ret_inv h
    simp
  | n + 1, zs, r, l, hz => by
    constructor
    · intro h
      obtain ⟨W, s, e1, h⟩ := seq_inv h
      obtain ⟨L, s2, e2, h⟩ := seq_inv h
      obtain ⟨rfl, rfl⟩ := ret_inv h
      obtain ⟨a1, a2⟩ := wr_write hz e1
      obtain ⟨b1, b2⟩ := (many_wr n (wrP_keeps _ _ _ hz e1)).1 e2
      refine ⟨?_, fun V hV => ?_⟩
      · show seqP writeP _ _ = _
        rw [seq_some a1, seq_some b1]; rfl
      · rcases List.mem_cons.1 hV with rfl | hV
        · exact a2
        · exact b2 V hV
    · rintro ⟨h, hv⟩
      obtain ⟨W, s, e1, h⟩ := seq_inv h
      obtain ⟨L, s2, e2, h⟩ := seq_inv h
      obtain ⟨rfl, rfl⟩ := ret_inv h
      have a1 := write_wr hz e1 (hv W (by simp))
      have b1 := (many_wr n (wrP_keeps _ _ _ hz a1)).2 ⟨e2, fun V hV => hv V (by simp [hV])⟩
      show seqP wrP _ _ = _
      rw [seq_some a1, seq_some b1]; rfl
theorem may_vals {l : List Wrt} {n : Nat} (h : mayW l n = true) : ∀ W ∈ l, W.v.length ≤ 200 := by
  unfold mayW at h
  simp only [Bool.and_eq_true, decide_eq_true_eq, List.all_eq_true] at h
  exact fun W hW => (h.1.2 W hW).1.2
theorem wrs_writes {zs r : List Int} {l : List Wrt} (hz : Bys zs) : writesP zs = some (l, r) ↔ wrsP zs = some (l, r) ∧ mayW l 0 = true := by
  constructor
  · intro h
    obtain ⟨n, s, e1, h⟩ := seq_inv h
    obtain ⟨L, s2, e2, h⟩ := seq_inv h
    by_cases hm : mayW L 0 = true
    · rw [if_pos hm] at h
      obtain ⟨rfl, rfl⟩ := ret_inv h
      refine ⟨?_, hm⟩
      unfold wrsP
      rw [seq_some e1]
      exact (many_wr _ (countP_keeps _ _ _ _ hz e1)).2 ⟨e2, may_vals hm⟩
    · rw [if_neg hm] at h; simp [noneP] at h
  · rintro ⟨h, hm⟩
    obtain ⟨n, s, e1, h⟩ := seq_inv h
    unfold writesP
    rw [seq_some e1, seq_some ((many_wr _ (countP_keeps _ _ _ _ hz e1)).1 h).1, if_pos hm]; rfl
theorem good_mayR {r : Rcd} (h : goodR r = true) (hk : r.kd = 1) : mayW r.l 0 = true := by
  unfold goodR at h
  rw [if_pos hk] at h
  simp only [entR, goodE, Bool.and_eq_true] at h
  exact mayW_less h.1.1.2
theorem tl_tail {kd id : Int} {zs r : List Int} {R : Rcd} (hz : Bys zs) (hg : goodR R = true) : tlP kd id zs = some (R, r) ↔ tailP kd id zs = some (R, r) := by
  unfold tlP tailP
  by_cases k1 : kd = 1
  · rw [if_pos k1, if_pos k1]
    constructor
    · intro h
      obtain ⟨a, s, e1, h⟩ := seq_inv h
      obtain ⟨b, s2, e2, h⟩ := seq_inv h
      obtain ⟨l, s3, e3, h⟩ := seq_inv h
      obtain ⟨rfl, rfl⟩ := ret_inv h
      have hs := stampP_keeps _ _ _ (stampP_keeps _ _ _ hz e1) e2
      rw [seq_some e1, seq_some e2, seq_some ((wrs_writes hs).2 ⟨e3, good_mayR hg k1⟩)]; rfl
    · intro h
      obtain ⟨a, s, e1, h⟩ := seq_inv h
      obtain ⟨b, s2, e2, h⟩ := seq_inv h
      obtain ⟨l, s3, e3, h⟩ := seq_inv h
      obtain ⟨rfl, rfl⟩ := ret_inv h
      have hs := stampP_keeps _ _ _ (stampP_keeps _ _ _ hz e1) e2
      rw [seq_some e1, seq_some e2, seq_some ((wrs_writes hs).1 e3).1]; rfl
  · rw [if_neg k1, if_neg k1]
    by_cases k2 : kd = 2 ∨ kd = 5
    · rw [if_pos k2, if_pos k2]
    · rw [if_neg k2, if_neg k2]
      by_cases k4 : kd = 4
      · rw [if_pos k4, if_pos k4, seq_congr (flag_bool hz)]
      · rw [if_neg k4, if_neg k4]
theorem rc_rec {zs r : List Int} {R : Rcd} (hz : Bys zs) (hg : goodR R = true) : rcP zs = some (R, r) ↔ recP zs = some (R, r) := by
  constructor
  · intro h
    obtain ⟨kd, s, e1, h⟩ := seq_inv h
    obtain ⟨z, s2, e2, h⟩ := seq_inv h
    have hs := numP_keeps _ _ _ (countP_keeps _ _ _ _ hz e1) e2
    unfold recP
    rw [seq_some e1, seq_some e2]
    exact (tl_tail hs hg).1 h
  · intro h
    obtain ⟨kd, s, e1, h⟩ := seq_inv h
    obtain ⟨z, s2, e2, h⟩ := seq_inv h
    have hs := numP_keeps _ _ _ (countP_keeps _ _ _ _ hz e1) e2
    unfold rcP
    rw [seq_some e1, seq_some e2]
    exact (tl_tail hs hg).2 h
theorem getL_iff {zs : List Int} {R : Rcd} : getL zs = some R ↔ rcP zs = some (R, []) ∧ goodR R = true := by
  unfold getL
  cases e : rcP zs with
  | none => simp
  | some x =>
    obtain ⟨Q, s⟩ := x
    cases s with
    | cons c s => simp
    | nil =>
      simp only [Option.some.injEq, Prod.mk.injEq, and_true]
      by_cases hg : goodR Q = true
      · rw [if_pos hg]
        constructor
        · intro h; injection h with h; subst h; exact ⟨rfl, hg⟩
        · rintro ⟨rfl, _⟩; rfl
      · rw [if_neg hg]
        constructor
        · intro h; simp at h
        · rintro ⟨rfl, h⟩; exact absurd h hg
theorem getR_iff {zs : List Int} {R : Rcd} : getR zs = some R ↔ recP zs = some (R, []) ∧ goodR R = true := by
  unfold getR
  cases e : recP zs with
  | none => simp
  | some x =>
    obtain ⟨Q, s⟩ := x
    cases s with
    | cons c s => simp
    | nil =>
      simp only [Option.some.injEq, Prod.mk.injEq, and_true]
      by_cases hg : goodR Q = true
      · rw [if_pos hg]
        constructor
        · intro h; injection h with h; subst h; exact ⟨rfl, hg⟩
        · rintro ⟨rfl, _⟩; rfl
      · rw [if_neg hg]
        constructor
        · intro h; simp at h
        · rintro ⟨rfl, h⟩; exact absurd h hg
/-- Records are read alike. -/
theorem getL_eq {zs : List Int} (hz : Bys zs) : getL zs = getR zs := by
  cases e : getR zs with
  | some R =>
    obtain ⟨h1, h2⟩ := getR_iff.1 e
    exact getL_iff.2 ⟨(rc_rec hz h2).2 h1, h2⟩
  | none =>
    cases e2 : getL zs with
    | none => rfl
    | some R =>
      obtain ⟨h1, h2⟩ := getL_iff.1 e2
      rw [getR_iff.2 ⟨(rc_rec hz h2).1 h1, h2⟩] at e
      simp at e
/-- Writes, with a look at them where there are some. -/
def getWL (zs : List Int) : Option (List Wrt × List Int) := match wrsP zs with
  | none => none
  | some (l, r) => if 0 < l.length ∧ mayW l 1 = false then none else some (l, r)
theorem may_none : mayW [] 0 = true := by unfold mayW; simp
theorem may_some {l : List Wrt} (h : 0 < l.length) : mayW l 1 = mayW l 0 := by
  unfold mayW
  have e1 : (1 ≤ l.length ∧ l.length ≤ 16) = (0 ≤ l.length ∧ l.length ≤ 16) := by simp; omega
  rw [Bool.eq_iff_iff]
  simp only [Bool.and_eq_true, decide_eq_true_eq]
  constructor
  · rintro ⟨⟨⟨_, b⟩, c⟩, d⟩; exact ⟨⟨⟨by omega, b⟩, c⟩, d⟩
  · rintro ⟨⟨⟨_, b⟩, c⟩, d⟩; exact ⟨⟨⟨by omega, b⟩, c⟩, d⟩
theorem getWL_eq {zs : List Int} (hz : Bys zs) : getWL zs = writesP zs := by
  cases e : wrsP zs with
  | none =>
    have e2 : writesP zs = none := by
      cases e3 : writesP zs with
      | none => rfl
      | some x => rw [((wrs_writes hz).1 e3).1] at e; simp at e
    unfold getWL
    rw [e, e2]
  | some x =>
    obtain ⟨l, r⟩ := x
    unfold getWL
    rw [e]
    show (if _ then _ else _) = _
    have hm : mayW l 0 = true ∨ mayW l 0 = false := by cases mayW l 0 <;> simp
    rcases hm with hm | hm
    · rw [if_neg (by rintro ⟨a, b⟩; rw [may_some a, hm] at b; simp at b)]
      exact ((wrs_writes hz).2 ⟨e, hm⟩).symm
    · have h0 : 0 < l.length := by
        cases l with
        | nil => rw [may_none] at hm; simp at hm
        | cons a b => simp
      rw [if_pos ⟨h0, by rw [may_some h0]; exact hm⟩]
      cases e3 : writesP zs with
      | none => rfl
      | some x =>
        obtain ⟨l2, r2⟩ := x
        obtain ⟨h1, h2⟩ := (wrs_writes hz).1 e3
        rw [e] at h1
        simp only [Option.some.injEq, Prod.mk.injEq] at h1
        rw [← h1.1, hm] at h2
        simp at h2
end Go.Proofs.Ytmiafadmcpmjgaa
