/-
  Records in bytes, as chapter 14 tells it: what is written, how it is read; what is written is read back, and nothing else has its bytes. No program is named here.
-/
import Derived.Test.YtmiafadmcpmjgaaPrepPlain
import Derived.Test.YtmiafadmcpmjgaaPlain
namespace Go.Proofs.Ytmiafadmcpmjgaa
set_option linter.unusedVariables false

/-! ### Reading -/
/-- A way to read: what is read, and what is left behind it. -/
abbrev Pr (α : Type) := List Int → Option (α × List Int)
def seqP {α β : Type} (p : Pr α) (f : α → Pr β) : Pr β := fun zs => match p zs with
  | none => none
  | some (a, r) => f a r
def retP {α : Type} (a : α) : Pr α := fun zs => some (a, zs)
def noneP {α : Type} : Pr α := fun _ => none
theorem seq_some {α β : Type} {p : Pr α} {f : α → Pr β} {zs r : List Int} {a : α} (h : p zs = some (a, r)) : seqP p f zs = f a r := by unfold seqP; rw [h]
theorem seq_none {α β : Type} {p : Pr α} {f : α → Pr β} {zs : List Int} (h : p zs = none) : seqP p f zs = none := by unfold seqP; rw [h]
/-- More behind is left where it is. -/
def Ext {α : Type} (p : Pr α) : Prop := ∀ zs a r m, p zs = some (a, r) → p (zs ++ m) = some (a, r ++ m)
theorem Ext.seq {α β : Type} {p : Pr α} {f : α → Pr β} (hp : Ext p) (hf : ∀ a, Ext (f a)) : Ext (seqP p f) := by
  intro zs b r m h
  cases e : p zs with
  | none => rw [seq_none e] at h; simp at h
  | some x =>
    obtain ⟨a, s⟩ := x
    rw [seq_some e] at h
    rw [seq_some (hp _ _ _ m e)]
    exact hf a _ _ _ m h
theorem Ext.ret {α : Type} (a : α) : Ext (retP a) := by
  intro zs b r m h
  simp [retP] at h
  obtain ⟨rfl, rfl⟩ := h
  rfl
theorem Ext.no {α : Type} : Ext (noneP (α := α)) := by intro zs b r m h; simp [noneP] at h

/-- A number. -/
def numP : Pr Int := fun zs => if (Pl.getI zs).2.2 = 0 then some ((Pl.getI zs).1, zs.drop (Pl.getI zs).2.1.toNat) else none
def byteP : Pr Int := fun zs => match zs with
  | [] => none
  | c :: r => some (c, r)
def bytesP (n : Int) : Pr (List Int) := fun zs => if (zs.length : Int) < n then none else some (zs.take n.toNat, zs.drop n.toNat)
def boolP : Pr Bool := seqP byteP fun c => if 1 < c then noneP else retP (decide (c = 1))
def stampP : Pr (Int × Int) := seqP numP fun v => if v < 9223372036854775808 then retP (v / 256, v % 256) else noneP
def countP (most : Int) : Pr Int := seqP numP fun v => if most < v then noneP else retP v
def textP : Pr (List Int) := seqP numP fun n => bytesP n
def writeP : Pr Wrt := seqP (bytesP 16) fun k => seqP boolP fun g => seqP textP fun v => retP ⟨k, v, g⟩
def manyP {α : Type} (p : Pr α) : Nat → Pr (List α)
  | 0 => retP []
  | n + 1 => seqP p fun a => seqP (manyP p n) fun l => retP (a :: l)
def writesP : Pr (List Wrt) := seqP (countP 16) fun n => seqP (manyP writeP n.toNat) fun l => if mayW l 0 = true then retP l else noneP
def partsP : Pr (List Int) := seqP (countP 8) fun n => manyP (countP 7) n.toNat

/-- A record. -/
structure Rcd where
  kd : Int
  id : Int
  s : Int
  m : Int
  t : Int
  n : Int
  l : List Wrt
  y : Bool
  ps : List Int
def upP : Int → List Int → Bool
  | _, [] => true
  | p, x :: r => decide (p < x ∧ 0 ≤ x ∧ x ≤ 7) && upP x r
def partsB (l : List Int) : Bool := upP (-1) l && decide (0 < l.length)
def plainR (r : Rcd) : Bool := decide (r.s = 0 ∧ r.m = 0) && decide (r.l.length = 0)
def bareR (r : Rcd) : Bool := plainR r && !r.y && decide (r.ps.length = 0)
def entR (r : Rcd) : Ent := ⟨r.id, r.s, r.m, r.t, r.n, r.l⟩
/-- May a record be? -/
def goodR (r : Rcd) : Bool :=
  if r.kd = 1 then goodE (entR r) && !r.y && decide (r.ps.length = 0)
  else if r.kd = 2 then decide (1 ≤ r.id) && bareR r && decide (okS r.t)
  else if r.kd = 3 then decide (1 ≤ r.id) && bareR r && decide (r.t = 0 ∧ r.n = 0)
  else if r.kd = 4 then decide (1 ≤ r.id) && plainR r && partsB r.ps && decide (okS r.t) && (r.y || decide (r.t = 0 ∧ r.n = 0))
  else if r.kd = 5 then decide (r.id = 0) && bareR r && decide (okS r.t) && decide (r.n = 0)
  else false
/-- What is behind a record's kind and number. -/
def tailP (kd id : Int) : Pr Rcd :=
  if kd = 1 then seqP stampP fun a => seqP stampP fun b => seqP writesP fun l => retP ⟨kd, id, a.1, a.2, b.1, b.2, l, false, []⟩
  else if kd = 2 ∨ kd = 5 then seqP stampP fun b => retP ⟨kd, id, 0, 0, b.1, b.2, [], false, []⟩
  else if kd = 4 then seqP boolP fun y => seqP stampP fun b => seqP partsP fun ps => retP ⟨kd, id, 0, 0, b.1, b.2, [], y, ps⟩
  else retP ⟨kd, id, 0, 0, 0, 0, [], false, []⟩
def recP : Pr Rcd := seqP (countP 5) fun kd => seqP numP fun z => tailP kd (Pl.zagI z)
/-- A record of bytes; none: what is no record. -/
def getR (zs : List Int) : Option Rcd := match recP zs with
  | some (r, []) => if goodR r = true then some r else none
  | _ => none

/-! ### Writing -/
def stpB (t n : Int) : List Int := Pl.putI (if okS t then t * 256 + n else 0)
def flagB (g : Bool) : Int := if g then 1 else 0
def txtB (v : List Int) : List Int := Pl.putI v.length ++ v
def wrtB (W : Wrt) : List Int := W.k ++ flagB W.g :: txtB W.v
def wrtsB (l : List Wrt) : List Int := Pl.putI l.length ++ l.flatMap wrtB
def partsL (l : List Int) : List Int := Pl.putI l.length ++ l.flatMap Pl.putI
def tailB (r : Rcd) : List Int :=
  if r.kd = 1 then stpB r.s r.m ++ (stpB r.t r.n ++ wrtsB r.l)
  else if r.kd = 2 ∨ r.kd = 5 then stpB r.t r.n
  else if r.kd = 4 then flagB r.y :: (stpB r.t r.n ++ partsL r.ps)
  else []
def recB (r : Rcd) : List Int := if goodR r = true then Pl.putI r.kd ++ (Pl.putI (Pl.zigI r.id) ++ tailB r) else []

/-! ### More behind -/
theorem getF_ext (f : Nat) : ∀ (X : Int) (k : Nat) (zs m : List Int), (Pl.getF f X k zs).2.2 = 0 → Pl.getF f X k (zs ++ m) = Pl.getF f X k zs ∧ (k : Int) ≤ (Pl.getF f X k zs).2.1 ∧ (Pl.getF f X k zs).2.1 ≤ k + zs.length := by
  induction f with
  | zero => intro X k zs m h; simp [Pl.getF] at h
  | succ f ih =>
    intro X k zs m h
    cases zs with
    | nil => simp [Pl.getF] at h
    | cons c r =>
      show Pl.getF (f + 1) X k (c :: (r ++ m)) = _ ∧ _
      by_cases hc : c < 128
      · by_cases hg : Pl.goodB c k = true
        · rw [Pl.get_end hc hg, Pl.get_end hc hg]
          refine ⟨rfl, ?_, ?_⟩ <;> (simp; try omega)
        · rw [Pl.get_bad hc (by simpa using hg)] at h
          simp at h
      · rw [Pl.get_more (by omega)] at h ⊢
        rw [Pl.get_more (by omega)]
        obtain ⟨h1, h2, h3⟩ := ih _ _ r m h
        refine ⟨h1, ?_, ?_⟩
        · omega
        · simp only [List.length_cons]; omega
theorem numP_ext : Ext numP := by
  intro zs a r m h
  unfold numP at h ⊢
  by_cases e : (Pl.getI zs).2.2 = 0
  · rw [if_pos e] at h
    obtain ⟨h1, h2, h3⟩ := getF_ext 10 0 0 zs m e
    have h1' : Pl.getI (zs ++ m) = Pl.getI zs := h1
    rw [h1', if_pos e]
    simp only [Option.some.injEq, Prod.mk.injEq] at h ⊢
    refine ⟨h.1, ?_⟩
    have h3' : (Pl.getI zs).2.1 ≤ ((0 : Nat) : Int) + zs.length := h3
    rw [List.drop_append_of_le_length (by omega), h.2]
  · rw [if_neg e] at h; simp at h
theorem byteP_ext : Ext byteP := by
  intro zs a r m h
  cases zs with
  | nil => simp [byteP] at h
  | cons c s =>
    simp [byteP] at h
    obtain ⟨rfl, rfl⟩ := h
    rfl
theorem bytesP_ext (n : Int) : Ext (bytesP n) := by
  intro zs a r m h
  unfold bytesP at h ⊢
  by_cases e : (zs.length : Int) < n
  · rw [if_pos e] at h; simp at h
  · rw [if_neg e] at h
    simp only [Option.some.injEq, Prod.mk.injEq] at h
    rw [if_neg (by simp only [List.length_append]; omega), List.take_append_of_le_length (by omega), List.drop_append_of_le_length (by omega), h.1, h.2]
theorem ite_ext {α : Type} (c : Prop) [Decidable c] {p q : Pr α} (hp : Ext p) (hq : Ext q) : Ext (if c then p else q) := by
  by_cases h : c
  · rw [if_pos h]; exact hp
  · rw [if_neg h]; exact hq
theorem boolP_ext : Ext boolP := byteP_ext.seq fun c => ite_ext _ .no (.ret _)
theorem stampP_ext : Ext stampP := numP_ext.seq fun c => ite_ext _ (.ret _) .no
theorem countP_ext (n : Int) : Ext (countP n) := numP_ext.seq fun c => ite_ext _ .no (.ret _)
theorem textP_ext : Ext textP := numP_ext.seq fun n => bytesP_ext n
theorem writeP_ext : Ext writeP := (bytesP_ext 16).seq fun k => boolP_ext.seq fun g => textP_ext.seq fun v => .ret _
theorem manyP_ext {α : Type} {p : Pr α} (h : Ext p) : ∀ n, Ext (manyP p n)
  | 0 => .ret _
  | n + 1 => h.seq fun a => (manyP_ext h n).seq fun l => .ret _
theorem writesP_ext : Ext writesP := (countP_ext 16).seq fun n => (manyP_ext writeP_ext _).seq fun l => ite_ext _ (.ret _) .no
theorem partsP_ext : Ext partsP := (countP_ext 8).seq fun n => manyP_ext (countP_ext 7) _
theorem tailP_ext (kd id : Int) : Ext (tailP kd id) := by
  unfold tailP
  refine ite_ext _ (stampP_ext.seq fun a => stampP_ext.seq fun b => writesP_ext.seq fun l => .ret _) (ite_ext _ (stampP_ext.seq fun b => .ret _) (ite_ext _ (boolP_ext.seq fun y => stampP_ext.seq fun b => partsP_ext.seq fun ps => .ret _) (.ret _)))
theorem recP_ext : Ext recP := (countP_ext 5).seq fun kd => numP_ext.seq fun z => tailP_ext _ _

/-! ### What is written is read back -/
/-- What numbers and bytes a record may hold at all. -/
structure RcdOk (r : Rcd) : Prop where
  id0 : -9223372036854775808 ≤ r.id
  id1 : r.id ≤ 9223372036854775807
  m0 : 0 ≤ r.m
  m1 : r.m ≤ 255
  n0 : 0 ≤ r.n
  n1 : r.n ≤ 255
  keys : ∀ W ∈ r.l, Ky W.k
  vals : ∀ W ∈ r.l, ∀ z ∈ W.v, 0 ≤ z ∧ z ≤ 255
theorem num_back (v : Int) (r : List Int) (h0 : 0 ≤ v) (h1 : v ≤ 18446744073709551615) : numP (Pl.putI v ++ r) = some (v, r) := by
  unfold numP
  rw [Pl.get_put v r h0 h1]
  simp
theorem count_back {v n : Int} (r : List Int) (h0 : 0 ≤ v) (h1 : v ≤ n) (h2 : n ≤ 1000) : countP n (Pl.putI v ++ r) = some (v, r) := by
  unfold countP
  rw [seq_some (num_back v r h0 (by omega)), if_neg (by omega)]
  rfl
theorem bytes_back (l r : List Int) (n : Int) (h : n = l.length) : bytesP n (l ++ r) = some (l, r) := by
  unfold bytesP
  subst h
  rw [if_neg (by simp only [List.length_append]; omega)]
  simp
theorem bool_back (g : Bool) (r : List Int) : boolP (flagB g :: r) = some (g, r) := by
  unfold boolP
  rw [seq_some (show byteP (flagB g :: r) = some (flagB g, r) from rfl)]
  cases g <;> rfl
theorem stamp_back (t n : Int) (r : List Int) (h : okS t) (h0 : 0 ≤ n) (h1 : n ≤ 255) : stampP (stpB t n ++ r) = some ((t, n), r) := by
  unfold stampP stpB
  obtain ⟨a, b⟩ := h
  rw [if_pos ⟨a, b⟩, seq_some (num_back _ r (by omega) (by omega)), if_pos (by omega)]
  have e1 : (t * 256 + n) / 256 = t := by omega
  have e2 : (t * 256 + n) % 256 = n := by omega
  rw [e1, e2]
  rfl
theorem text_back (v r : List Int) (h : v.length ≤ 1000000) : textP (txtB v ++ r) = some (v, r) := by
  unfold textP txtB
  rw [List.append_assoc, seq_some (num_back _ _ (by omega) (by omega)), bytes_back _ _ _ rfl]
theorem write_back (W : Wrt) (r : List Int) (hk : Ky W.k) (h : W.v.length ≤ 1000000) : writeP (wrtB W ++ r) = some (W, r) := by
  unfold writeP wrtB
  rw [List.append_assoc, List.cons_append, seq_some (bytes_back _ _ _ (by rw [hk.len]; rfl)), seq_some (bool_back _ _), seq_some (text_back _ _ h)]
  rfl
theorem many_back {α : Type} {p : Pr α} {q : α → List Int} (l : List α) (h : ∀ a ∈ l, ∀ r, p (q a ++ r) = some (a, r)) (r : List Int) : manyP p l.length (l.flatMap q ++ r) = some (l, r) := by
  induction l with
  | nil => rfl
  | cons a l ih =>
    rw [List.flatMap_cons, List.append_assoc, List.length_cons]
    show seqP p _ _ = _
    rw [seq_some (h a (by simp) _), seq_some (ih (fun b hb => h b (by simp [hb])))]
    rfl
theorem writes_back (l : List Wrt) (r : List Int) (hm : mayW l 0 = true) (hk : ∀ W ∈ l, Ky W.k) : writesP (wrtsB l ++ r) = some (l, r) := by
  have hm' := hm
  unfold mayW at hm'
  simp only [Bool.and_eq_true, decide_eq_true_eq, List.all_eq_true] at hm'
  obtain ⟨⟨⟨_, h16⟩, hall⟩, _⟩ := hm'
  unfold writesP wrtsB
  rw [List.append_assoc, seq_some (count_back _ (by omega) (by omega) (by omega)), Int.toNat_natCast, seq_some (many_back l (fun W hW r => write_back W r (hk W hW) (by have := (hall W hW).1.2; omega)) r), if_pos hm]
  rfl
theorem upP_in : ∀ {l : List Int} {p : Int}, upP p l = true → ∀ x ∈ l, p < x ∧ 0 ≤ x ∧ x ≤ 7
  | [], p, h, x, hx => by simp at hx
  | a :: r, p, h, x, hx => by
    simp only [upP, Bool.and_eq_true, decide_eq_true_eq] at h
    rcases List.mem_cons.1 hx with rfl | hx
    · exact h.1
    · have := upP_in h.2 x hx
      omega
theorem upP_few : ∀ {l : List Int} {p : Int}, upP p l = true → -1 ≤ p → p ≤ 7 → (l.length : Int) ≤ 7 - p
  | [], p, h, h0, h1 => by simp; omega
  | a :: r, p, h, h0, h1 => by
    simp only [upP, Bool.and_eq_true, decide_eq_true_eq] at h
    have := upP_few h.2 (by omega) (by omega)
    simp only [List.length_cons]
    omega
theorem parts_back (l r : List Int) (h : partsB l = true) : partsP (partsL l ++ r) = some (l, r) := by
  unfold partsB at h
  simp only [Bool.and_eq_true, decide_eq_true_eq] at h
  have h8 := upP_few h.1 (by omega) (by omega)
  unfold partsP partsL
  rw [List.append_assoc, seq_some (count_back _ (by omega) (by omega) (by omega)), Int.toNat_natCast]
  exact many_back l (fun x hx r => count_back r (upP_in h.1 x hx).2.1 (upP_in h.1 x hx).2.2 (by omega)) r
theorem mayW_less {l : List Wrt} {n : Nat} (h : mayW l n = true) : mayW l 0 = true := by
  unfold mayW at *
  simp only [Bool.and_eq_true, decide_eq_true_eq] at *
  exact ⟨⟨⟨by omega, h.1.1.2⟩, h.1.2⟩, h.2⟩
theorem list_none {α : Type} {l : List α} (h : l.length = 0) : l = [] := List.length_eq_zero_iff.1 h
theorem tail_back (r : Rcd) (m : List Int) (hg : goodR r = true) (ho : RcdOk r) : tailP r.kd r.id (tailB r ++ m) = some (r, m) := by
  obtain ⟨kd, id, s, sm, t, n, l, y, ps⟩ := r
  obtain ⟨_, _, m0, m1, n0, n1, hk, _⟩ := ho
  unfold goodR at hg
  unfold tailP tailB
  simp only at *
  by_cases k1 : kd = 1
  · subst k1
    rw [if_pos rfl] at hg ⊢
    rw [if_pos rfl]
    simp only [entR, goodE, Bool.and_eq_true, decide_eq_true_eq, Bool.not_eq_true'] at hg
    obtain ⟨⟨⟨⟨⟨⟨_, hs⟩, ht⟩, _⟩, hm⟩, rfl⟩, hp⟩ := hg
    obtain rfl := list_none hp
    rw [List.append_assoc, List.append_assoc, seq_some (stamp_back _ _ _ (of_decide_eq_true hs) m0 m1), seq_some (stamp_back _ _ _ (of_decide_eq_true ht) n0 n1), seq_some (writes_back l m (mayW_less hm) hk)]
    rfl
  rw [if_neg k1] at hg ⊢
  rw [if_neg k1]
  by_cases k2 : kd = 2
  · subst k2
    rw [if_pos rfl] at hg
    rw [if_pos (.inl rfl), if_pos (.inl rfl)]
    simp only [bareR, plainR, Bool.and_eq_true, decide_eq_true_eq, Bool.not_eq_true'] at hg
    obtain ⟨⟨_, ⟨⟨⟨⟨rfl, rfl⟩, hl⟩, rfl⟩, hp⟩⟩, ht⟩ := hg
    obtain rfl := list_none hp
    obtain rfl := list_none hl
    rw [seq_some (stamp_back _ _ _ ht n0 n1)]
    rfl
  rw [if_neg k2] at hg
  by_cases k3 : kd = 3
  · subst k3
    rw [if_pos rfl] at hg
    rw [if_neg (by omega), if_neg (by omega), if_neg (by omega), if_neg (by omega)]
    simp only [bareR, plainR, Bool.and_eq_true, decide_eq_true_eq, Bool.not_eq_true'] at hg
    obtain ⟨⟨_, ⟨⟨⟨⟨rfl, rfl⟩, hl⟩, rfl⟩, hp⟩⟩, rfl, rfl⟩ := hg
    obtain rfl := list_none hp
    obtain rfl := list_none hl
    rfl
  rw [if_neg k3] at hg
  by_cases k4 : kd = 4
  · subst k4
    rw [if_pos rfl] at hg
    rw [if_neg (by omega), if_pos rfl, if_neg (by omega), if_pos rfl]
    simp only [plainR, Bool.and_eq_true, decide_eq_true_eq] at hg
    obtain ⟨⟨⟨⟨_, ⟨⟨rfl, rfl⟩, hl⟩⟩, hp⟩, ht⟩, _⟩ := hg
    obtain rfl := list_none hl
    rw [List.cons_append, List.append_assoc, seq_some (bool_back _ _), seq_some (stamp_back _ _ _ ht n0 n1), seq_some (parts_back ps m hp)]
    rfl
  rw [if_neg k4] at hg
  by_cases k5 : kd = 5
  · subst k5
    rw [if_pos rfl] at hg
    rw [if_pos (.inr rfl), if_pos (.inr rfl)]
    simp only [bareR, plainR, Bool.and_eq_true, decide_eq_true_eq, Bool.not_eq_true'] at hg
    obtain ⟨⟨⟨_, ⟨⟨⟨⟨rfl, rfl⟩, hl⟩, rfl⟩, hp⟩⟩, ht⟩, hn⟩ := hg
    obtain rfl := list_none hp
    obtain rfl := list_none hl
    rw [seq_some (stamp_back _ _ _ ht n0 n1)]
    rfl
  rw [if_neg k5] at hg
  simp at hg
theorem good_kind {r : Rcd} (h : goodR r = true) : 1 ≤ r.kd ∧ r.kd ≤ 5 := by
  unfold goodR at h
  by_cases k1 : r.kd = 1
  · omega
  rw [if_neg k1] at h
  by_cases k2 : r.kd = 2
  · omega
  rw [if_neg k2] at h
  by_cases k3 : r.kd = 3
  · omega
  rw [if_neg k3] at h
  by_cases k4 : r.kd = 4
  · omega
  rw [if_neg k4] at h
  by_cases k5 : r.kd = 5
  · omega
  rw [if_neg k5] at h
  simp at h
theorem rec_back (r : Rcd) (m : List Int) (hg : goodR r = true) (ho : RcdOk r) : recP (recB r ++ m) = some (r, m) := by
  have hk := good_kind hg
  have hz := Pl.zig_bd r.id ho.id0 ho.id1
  unfold recP recB
  rw [if_pos hg, List.append_assoc, List.append_assoc, seq_some (count_back _ (by omega) hk.2 (by omega)), seq_some (num_back _ _ hz.1 hz.2), Pl.zag_zig]
  exact tail_back r m hg ho
/-- P14.1: a record is read back; unlike ones have unlike bytes; with more behind, or cut off, it is none. -/
theorem getR_back (r : Rcd) (hg : goodR r = true) (ho : RcdOk r) : getR (recB r) = some r := by
  have h := rec_back r [] hg ho
  rw [List.append_nil] at h
  unfold getR
  rw [h]
  simp only
  rw [if_pos hg]
theorem recB_inj {r q : Rcd} (hr : goodR r = true) (hq : goodR q = true) (or : RcdOk r) (oq : RcdOk q) (h : recB r = recB q) : r = q := by
  have h1 := getR_back r hr or
  rw [h, getR_back q hq oq] at h1
  simpa using h1.symm
theorem getR_more (r : Rcd) (x : Int) (hg : goodR r = true) (ho : RcdOk r) : getR (recB r ++ [x]) = none := by
  unfold getR
  rw [rec_back r [x] hg ho]
theorem getR_cut (r : Rcd) (k : Nat) (hg : goodR r = true) (ho : RcdOk r) (hk : k < (recB r).length) : getR ((recB r).take k) = none := by
  cases e : getR ((recB r).take k) with
  | none => rfl
  | some q =>
    exfalso
    unfold getR at e
    cases e2 : recP ((recB r).take k) with
    | none => rw [e2] at e; simp at e
    | some x =>
      obtain ⟨a, s⟩ := x
      rw [e2] at e
      cases s with
      | cons c s => simp at e
      | nil =>
        have h1 := recP_ext _ _ _ ((recB r).drop k) e2
        rw [List.take_append_drop] at h1
        have h2 := rec_back r [] hg ho
        rw [List.append_nil, h1] at h2
        simp only [Option.some.injEq, Prod.mk.injEq, List.nil_append] at h2
        have := congrArg List.length h2.2
        simp at this
        omega
end Go.Proofs.Ytmiafadmcpmjgaa
