/-
  Chapter 18 in plain words: what is to be decided, and what was. No program is named here.
  Chapter 18 in plain words: what is logged and played is as it was decided; what calls keep of each.
-/
import Derived.Test.YtcppihpehipelaaAu56
import Derived.Test.YtcppihpehipelaaAu52
namespace Go.Proofs.Ytcppihpehipelaa
open Go.RowKit
set_option linter.unusedVariables false

/-- One that is to be decided: its snap (st, sn), its parts, who has said yes, how it was decided (0 not yet, 1 to be committed, 2 not), at which stamp (before that: the greatest so far), who has Acked. -/
structure DecC where
  id : Int
  st : Int
  sn : Int
  parts : List Int
  votes : List Bool
  how : Int
  at_ : Int
  an : Int
  acks : List Bool
/-- Where a number stands in a list. -/
def spotC (l : List Int) (p : Int) : Nat := (l.takeWhile (fun x => decide (x ≠ p))).length
def hasP (l : List Int) (p : Int) : Bool := decide (spotC l p < l.length)
/-- Where an id stands. -/
def findC (C : List DecC) (id : Int) : Nat := (C.takeWhile (fun x => decide (x.id ≠ id))).length
def getC (C : List DecC) (id : Int) : Option DecC := C[findC C id]?
def layC (C : List DecC) (x : DecC) : List DecC := C.takeWhile (fun y => decide (y.id < x.id)) ++ x :: C.drop (C.takeWhile (fun y => decide (y.id < x.id))).length
def putC (C : List DecC) (x : DecC) : List DecC := C.set (findC C x.id) x
def newC (id st sn : Int) (l : List Int) : DecC := ⟨id, st, sn, l, List.replicate l.length false, 0, 0, 0, List.replicate l.length false⟩
def beginC (C : List DecC) (id st sn : Int) (l : List Int) : Int × List DecC :=
  if id < 1 ∨ ¬ okS st ∨ partsB l = false then (1, C) else
  match getC C id with
  | some _ => (5, C)
  | none => (0, layC C (newC id st sn l))
/-- One more yes, at a stamp. -/
def yesD (d : DecC) (k : Nat) (t n : Int) : DecC :=
  { d with votes := d.votes.set k true, at_ := (mxS d.at_ d.an t n).1, an := (mxS d.at_ d.an t n).2, how := if (d.votes.set k true).all id then 1 else 0 }
def noD (d : DecC) : DecC := { d with how := 2, at_ := 0, an := 0 }
def voteD (d : DecC) (p : Int) (y : Bool) (t n : Int) : Int × DecC :=
  if hasP d.parts p = false then (4, d) else
  if y = true ∧ (¬ okS t ∨ cmpS t n d.st d.sn ≤ 0) then (1, d) else
  if d.how ≠ 0 ∨ d.votes.getD (spotC d.parts p) false = true then (0, d) else
  if y = false then (0, noD d) else (0, yesD d (spotC d.parts p) t n)
def giveD (d : DecC) : DecC := if d.how = 0 then noD d else d
def ackD (d : DecC) (p : Int) : Int × DecC :=
  if hasP d.parts p = false then (4, d) else
  if d.how = 0 then (8, d) else (0, { d with acks := d.acks.set (spotC d.parts p) true })
def owesD (d : DecC) : List Int := ((d.parts.zip d.acks).filter (fun x => !x.2)).map (fun x => x.1)
def voteC (C : List DecC) (id p : Int) (y : Bool) (t n : Int) : Int × List DecC := match getC C id with
  | none => (4, C)
  | some d => ((voteD d p y t n).1, putC C (voteD d p y t n).2)
def decC (C : List DecC) (id : Int) : Bool × Bool × Int × Int := match getC C id with
  | none => (false, false, 0, 0)
  | some d => if d.how = 0 then (false, false, 0, 0) else (true, decide (d.how = 1), d.at_, d.an)
def giveC (C : List DecC) (id : Int) : (Bool × Int) × List DecC := match getC C id with
  | none => ((false, 4), C)
  | some d => ((decide ((giveD d).how = 1), 0), putC C (giveD d))
def ackC (C : List DecC) (id p : Int) : Int × List DecC := match getC C id with
  | none => (4, C)
  | some d => ((ackD d p).1, putC C (ackD d p).2)
def owesC (C : List DecC) (id : Int) : List Int := match getC C id with
  | none => []
  | some d => owesD d
def openC (C : List DecC) : List Int := (C.filter (fun d => decide (d.how = 0) || decide (0 < (owesD d).length))).map (fun d => d.id)
def recC (C : List DecC) (id : Int) : Option Rcd := match getC C id with
  | none => none
  | some d => if d.how = 0 then none else some ⟨4, id, 0, 0, d.at_, d.an, [], decide (d.how = 1), d.parts⟩
def saidC (r : Rcd) : DecC := ⟨r.id, 0, 0, r.ps, List.replicate r.ps.length false, if r.y then 1 else 2, r.t, r.n, List.replicate r.ps.length false⟩
def playC (C : List DecC) (r : Rcd) : Int × List DecC :=
  if goodR r = false ∨ r.kd ≠ 4 then (3, C) else
  match getC C r.id with
  | some _ => (5, C)
  | none => (0, layC C (saidC r))
theorem spotC_lt {l : List Int} {p : Int} (h : p ∈ l) : spotC l p < l.length ∧ l[spotC l p]? = some p := by
  induction l with
  | nil => simp at h
  | cons a r ih =>
    unfold spotC
    rw [List.takeWhile_cons]
    by_cases e : a = p
    · subst e; simp
    · rw [if_pos (decide_eq_true e)]
      rcases List.mem_cons.1 h with h | h
      · exact absurd h.symm e
      · have := ih h
        unfold spotC at this
        simp only [List.length_cons, List.getElem?_cons_succ]
        exact ⟨by omega, this.2⟩
theorem spotC_no {l : List Int} {p : Int} (h : p ∉ l) : spotC l p = l.length := by
  induction l with
  | nil => rfl
  | cons a r ih =>
    have ha : a ≠ p := fun e => h (by simp [e])
    have := ih (fun e => h (by simp [e]))
    unfold spotC at this ⊢
    rw [List.takeWhile_cons, if_pos (decide_eq_true ha), List.length_cons, List.length_cons, this]
theorem hasP_iff {l : List Int} {p : Int} : hasP l p = true ↔ p ∈ l := by
  constructor
  · intro h
    have h1 := of_decide_eq_true h
    apply Classical.byContradiction
    intro hn
    have := spotC_no hn
    omega
  · exact fun h => decide_eq_true (spotC_lt h).1
/-- One alone. -/
theorem getC_one (d : DecC) : getC [d] d.id = some d := by
  unfold getC findC
  simp
/-- The greater of two stamps is above what one of them is above. -/
theorem mxS_ge (t n t' n' a b : Int) (h : ltS a b t n ∨ ltS a b t' n') : ltS a b (mxS t n t' n').1 (mxS t n t' n').2 := by
  unfold mxS
  split
  · next h1 =>
    rcases h with h | h
    · unfold ltS at *; omega
    · exact h
  · next h1 =>
    rcases h with h | h
    · exact h
    · unfold ltS at *; omega
/-- What the law CoordOnce holds beside one that was begun: who has said yes, whether it is known, to be committed, the greatest stamp so far, the one told. -/
structure OnceC (d : DecC) (st sn : Int) (ys : List Bool) (kn co : Bool) (mt mn wt wn : Int) : Prop where
  snap : d.st = st ∧ d.sn = sn
  ys : ys = d.votes
  kn : kn = decide (d.how ≠ 0)
  co : co = decide (d.how = 1)
  told : d.how = 1 → wt = d.at_ ∧ wn = d.an
  zero : d.how ≠ 1 → wt = 0 ∧ wn = 0
  most : d.how = 0 → mt = d.at_ ∧ mn = d.an
  open_ : d.how = 0 → d.votes.all id = false
  no : d.how = 2 → d.at_ = 0 ∧ d.an = 0
  above : d.how ≠ 2 → d.votes.any id = true → ltS st sn d.at_ d.an
  one : d.how = 1 → d.votes.any id = true
  ways : d.how = 0 ∨ d.how = 1 ∨ d.how = 2
theorem OnceC.begun (id st sn : Int) (l : List Int) (hl : 0 < l.length) : OnceC (newC id st sn l) st sn (List.replicate l.length false) false false 0 0 0 0 := by
  refine ⟨⟨rfl, rfl⟩, rfl, rfl, rfl, fun h => by simp [newC] at h, fun _ => ⟨rfl, rfl⟩, fun _ => ⟨rfl, rfl⟩, fun _ => ?_, fun h => by simp [newC] at h, fun _ h => ?_, fun h => by simp [newC] at h, .inl rfl⟩
  · obtain ⟨n, hn⟩ : ∃ n, l.length = n + 1 := ⟨l.length - 1, by omega⟩
    simp [newC, hn, List.replicate_succ]
  · simp [newC] at h
/-- A no. -/
theorem OnceC.refused {d : DecC} {st sn mt mn wt wn : Int} {ys : List Bool} {kn co : Bool} (h : OnceC d st sn ys kn co mt mn wt wn) (h0 : d.how = 0) : OnceC (noD d) st sn ys true co mt mn wt wn := by
  have hz := h.zero (by omega)
  exact ⟨h.snap, h.ys, rfl, by rw [h.co, decide_eq_false (by omega)]; rfl, fun e => by simp [noD] at e, fun _ => hz, fun e => by simp [noD] at e, fun e => by simp [noD] at e, fun _ => ⟨rfl, rfl⟩, fun e _ => by simp [noD] at e, fun e => by simp [noD] at e, .inr (.inr rfl)⟩
theorem set_anyC {l : List Bool} {k : Nat} (hk : k < l.length) : (l.set k true).any id = true := List.any_eq_true.2 ⟨true, List.mem_iff_getElem?.2 ⟨k, by simp [hk]⟩, rfl⟩
/-- A yes that is not the last. -/
theorem OnceC.more {d : DecC} {st sn mt mn wt wn t n : Int} {ys : List Bool} {kn co : Bool} {k : Nat} (h : OnceC d st sn ys kn co mt mn wt wn) (h0 : d.how = 0) (hk : k < d.votes.length) (ha : ltS st sn t n) (hall : (ys.set k true).all id = false) : OnceC (yesD d k t n) st sn (ys.set k true) kn co (mxS mt mn t n).1 (mxS mt mn t n).2 wt wn := by
  obtain ⟨m1, m2⟩ := h.most h0
  have hz := h.zero (by omega)
  rw [h.ys] at hall
  have hh : (yesD d k t n).how = 0 := by show (if _ then _ else _) = _; rw [if_neg (by rw [hall]; decide)]
  refine ⟨h.snap, by rw [h.ys]; rfl, by rw [h.kn, hh, h0], by rw [h.co, hh, h0], fun e => by rw [hh] at e; simp at e, fun _ => hz, fun _ => by rw [m1, m2]; exact ⟨rfl, rfl⟩, fun _ => hall, fun e => by rw [hh] at e; simp at e, fun _ _ => mxS_ge _ _ _ _ _ _ (.inr ha), fun e => by rw [hh] at e; simp at e, .inl hh⟩
/-- The last yes. -/
theorem OnceC.last {d : DecC} {st sn mt mn wt wn t n : Int} {ys : List Bool} {kn co : Bool} {k : Nat} (h : OnceC d st sn ys kn co mt mn wt wn) (h0 : d.how = 0) (hk : k < d.votes.length) (ha : ltS st sn t n) (hall : (ys.set k true).all id = true) : OnceC (yesD d k t n) st sn (ys.set k true) true true (mxS mt mn t n).1 (mxS mt mn t n).2 (mxS mt mn t n).1 (mxS mt mn t n).2 := by
  obtain ⟨m1, m2⟩ := h.most h0
  rw [h.ys] at hall
  have hh : (yesD d k t n).how = 1 := by show (if _ then _ else _) = _; rw [if_pos hall]
  refine ⟨h.snap, by rw [h.ys]; rfl, by rw [hh]; rfl, by rw [hh]; rfl, fun _ => by rw [m1, m2]; exact ⟨rfl, rfl⟩, fun e => absurd hh e, fun e => by rw [hh] at e; simp at e, fun e => by rw [hh] at e; simp at e, fun e => by rw [hh] at e; simp at e, fun _ _ => mxS_ge _ _ _ _ _ _ (.inr ha), fun _ => by show (d.votes.set k true).any _ = _; exact set_anyC hk, .inr (.inl hh)⟩
/-- What Decision tells is what the law holds. -/
theorem OnceC.tells {d : DecC} {st sn mt mn wt wn : Int} {ys : List Bool} {kn co : Bool} (h : OnceC d st sn ys kn co mt mn wt wn) : decC [d] d.id = (kn, co, wt, wn) ∧ (co = true → ¬ cmpS wt wn st sn ≤ 0) := by
  constructor
  · unfold decC
    rw [getC_one]
    show (if d.how = 0 then _ else _) = _
    by_cases h0 : d.how = 0
    · obtain ⟨z1, z2⟩ := h.zero (by omega)
      rw [if_pos h0, h.kn, h.co, z1, z2, h0]
      rfl
    · rw [if_neg h0, h.kn, h.co, decide_eq_true h0]
      by_cases h1 : d.how = 1
      · obtain ⟨e1, e2⟩ := h.told h1
        rw [e1, e2]
      · obtain ⟨e1, e2⟩ := h.zero h1
        have h2 : d.how = 2 := by rcases h.ways with e | e | e <;> omega
        obtain ⟨n1, n2⟩ := h.no h2
        rw [e1, e2, n1, n2]
  · intro hc
    rw [h.co, decide_eq_true_eq] at hc
    obtain ⟨e1, e2⟩ := h.told hc
    have := h.above (by omega) (h.one hc)
    rw [e1, e2, cmp_gt this]
    omega
end Go.Proofs.Ytcppihpehipelaa

namespace Go.Proofs.Ytcppihpehipelaa
open Go.RowKit
set_option linter.unusedVariables false

theorem owes_none : ∀ (l : List Int), ((l.zip (List.replicate l.length false)).filter (fun x => !x.2)).map (fun x => x.1) = l
  | [] => rfl
  | a :: r => by
    rw [List.length_cons, List.replicate_succ, List.zip_cons_cons, List.filter_cons]
    simp only [Bool.not_false, if_true, List.map_cons]
    rw [owes_none r]
/-- What calls keep of each. -/
structure DecK (d : DecC) : Prop where
  id : 1 ≤ d.id
  st : okS d.st
  parts : partsB d.parts = true
  votes : d.votes.length = d.parts.length
  acks : d.acks.length = d.parts.length
  how : d.how = 0 ∨ d.how = 1 ∨ d.how = 2
  at_ : okS d.at_
  no : d.how = 2 → d.at_ = 0 ∧ d.an = 0
theorem okS_zero : okS 0 := by unfold okS; omega
theorem mxS_ok {t n t' n' : Int} (h : okS t) (h' : okS t') : okS (mxS t n t' n').1 := by
  unfold mxS
  split
  · exact h'
  · exact h
theorem DecK.new {id st sn : Int} {l : List Int} (h : ¬ (id < 1 ∨ ¬ okS st ∨ partsB l = false)) : DecK (newC id st sn l) := by
  have h1 : 1 ≤ id := by
    rcases Int.lt_or_le id 1 with h' | h'
    · exact absurd (.inl h') h
    · exact h'
  have h2 : okS st := Classical.byContradiction fun e => h (.inr (.inl e))
  have h3 : partsB l = true := by
    cases e : partsB l with
    | true => rfl
    | false => exact absurd (.inr (.inr e)) h
  exact ⟨h1, h2, h3, by simp [newC], by simp [newC], .inl rfl, okS_zero, fun e => by simp [newC] at e⟩
theorem DecK.noD {d : DecC} (h : DecK d) : DecK (noD d) := ⟨h.id, h.st, h.parts, h.votes, h.acks, .inr (.inr rfl), okS_zero, fun _ => ⟨rfl, rfl⟩⟩
theorem DecK.yesD {d : DecC} (h : DecK d) (k : Nat) {t n : Int} (ht : okS t) : DecK (yesD d k t n) := by
  refine ⟨h.id, h.st, h.parts, by show (d.votes.set k true).length = _; rw [List.length_set]; exact h.votes, h.acks, ?_, mxS_ok h.at_ ht, fun e => ?_⟩
  · show (if _ then _ else _) = _ ∨ (if _ then _ else _) = _ ∨ _
    split
    · exact .inr (.inl rfl)
    · exact .inl rfl
  · have : (if (d.votes.set k true).all _root_.id then (1 : Int) else 0) = 2 := e
    split at this <;> omega
theorem DecK.voteD {d : DecC} (h : DecK d) (p : Int) (y : Bool) (t n : Int) : DecK (voteD d p y t n).2 := by
  unfold Go.Proofs.Ytcppihpehipelaa.voteD
  split
  · exact h
  · split
    · exact h
    · next h2 =>
      split
      · exact h
      · split
        · exact h.noD
        · next hy =>
          refine h.yesD _ (Classical.byContradiction fun e => h2 ⟨?_, .inl e⟩)
          cases y with
          | true => rfl
          | false => exact absurd rfl hy
theorem DecK.giveD {d : DecC} (h : DecK d) : DecK (giveD d) := by
  unfold Go.Proofs.Ytcppihpehipelaa.giveD
  split
  · exact h.noD
  · exact h
theorem DecK.ackD {d : DecC} (h : DecK d) (p : Int) : DecK (ackD d p).2 := by
  unfold Go.Proofs.Ytcppihpehipelaa.ackD
  split
  · exact h
  · split
    · exact h
    · exact ⟨h.id, h.st, h.parts, h.votes, by show (d.acks.set _ true).length = _; rw [List.length_set]; exact h.acks, h.how, h.at_, h.no⟩
end Go.Proofs.Ytcppihpehipelaa

