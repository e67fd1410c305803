/-
  Chapter 18 in plain words: what is logged and played is as it was decided; what calls keep of each.
-/
import Derived.Test.YtcppihpehipelaaCoordPlain
namespace Go.Proofs.Ytcppihpehipelaa
open Go.RowKit
set_option linter.unusedVariables false

theorem owes_none : ∀ (l : List Int), ((l.zip (List.replicate l.length false)).filter (fun x => !x.2)).map (fun x => x.1) = l
  | [] => rfl
  | a :: r => by
    rw [List.length_cons, List.replicate_succ, List.zip_cons_cons, List.filter_cons]
    simp only [Bool.not_false, if_true, List.map_cons]
    rw [owes_none r]
/-- What calls keep of each. -/
structure DecK (d : DecC) : Prop where
  id : 1 ≤ d.id
  st : okS d.st
  parts : partsB d.parts = true
  votes : d.votes.length = d.parts.length
  acks : d.acks.length = d.parts.length
  how : d.how = 0 ∨ d.how = 1 ∨ d.how = 2
  at_ : okS d.at_
  no : d.how = 2 → d.at_ = 0 ∧ d.an = 0
theorem okS_zero : okS 0 := by unfold okS; omega
theorem mxS_ok {t n t' n' : Int} (h : okS t) (h' : okS t') : okS (mxS t n t' n').1 := by
  unfold mxS
  split
  · exact h'
  · exact h
theorem DecK.new {id st sn : Int} {l : List Int} (h : ¬ (id < 1 ∨ ¬ okS st ∨ partsB l = false)) : DecK (newC id st sn l) := by
  have h1 : 1 ≤ id := by
    rcases Int.lt_or_le id 1 with h' | h'
    · exact absurd (.inl h') h
    · exact h'
  have h2 : okS st := Classical.byContradiction fun e => h (.inr (.inl e))
  have h3 : partsB l = true := by
    cases e : partsB l with
    | true => rfl
    | false => exact absurd (.inr (.inr e)) h
  exact ⟨h1, h2, h3, by simp [newC], by simp [newC], .inl rfl, okS_zero, fun e => by simp [newC] at e⟩
theorem DecK.noD {d : DecC} (h : DecK d) : DecK (noD d) := ⟨h.id, h.st, h.parts, h.votes, h.acks, .inr (.inr rfl), okS_zero, fun _ => ⟨rfl, rfl⟩⟩
theorem DecK.yesD {d : DecC} (h : DecK d) (k : Nat) {t n : Int} (ht : okS t) : DecK (yesD d k t n) := by
  refine ⟨h.id, h.st, h.parts, by show (d.votes.set k true).length = _; rw [List.length_set]; exact h.votes, h.acks, ?_, mxS_ok h.at_ ht, fun e => ?_⟩
  · show (if _ then _ else _) = _ ∨ (if _ then _ else _) = _ ∨ _
    split
    · exact .inr (.inl rfl)
    · exact .inl rfl
  · have : (if (d.votes.set k true).all _root_.id then (1 : Int) else 0) = 2 := e
    split at this <;> omega
theorem DecK.voteD {d : DecC} (h : DecK d) (p : Int) (y : Bool) (t n : Int) : DecK (voteD d p y t n).2 := by
  unfold Go.Proofs.Ytcppihpehipelaa.voteD
  split
  · exact h
  · split
    · exact h
    · next h2 =>
      split
      · exact h
      · split
        · exact h.noD
        · next hy =>
          refine h.yesD _ (Classical.byContradiction fun e => h2 ⟨?_, .inl e⟩)
          cases y with
          | true => rfl
          | false => exact absurd rfl hy
theorem DecK.giveD {d : DecC} (h : DecK d) : DecK (giveD d) := by
  unfold Go.Proofs.Ytcppihpehipelaa.giveD
  split
  · exact h.noD
  · exact h
theorem DecK.ackD {d : DecC} (h : DecK d) (p : Int) : DecK (ackD d p).2 := by
  unfold Go.Proofs.Ytcppihpehipelaa.ackD
  split
  · exact h
  · split
    · exact h
    · exact ⟨h.id, h.st, h.parts, h.votes, by show (d.acks.set _ true).length = _; rw [List.length_set]; exact h.acks, h.how, h.at_, h.no⟩
/-- What is logged of one that is decided. -/
def logD (d : DecC) : Rcd := ⟨4, d.id, 0, 0, d.at_, d.an, [], decide (d.how = 1), d.parts⟩
theorem logD_good {d : DecC} (h : DecK d) (h0 : d.how ≠ 0) : goodR (logD d) = true := by
  unfold goodR
  rw [if_neg (by show ¬ (4 : Int) = 1; omega), if_neg (by show ¬ (4 : Int) = 2; omega), if_neg (by show ¬ (4 : Int) = 3; omega), if_pos (show (logD d).kd = 4 from rfl)]
  have e1 : plainR (logD d) = true := by unfold plainR logD; simp
  rw [e1]
  have e2 : partsB (logD d).ps = true := h.parts
  rw [e2]
  have e3 : decide (1 ≤ (logD d).id) = true := decide_eq_true h.id
  have e4 : decide (okS (logD d).t) = true := decide_eq_true h.at_
  rw [e3, e4]
  simp only [Bool.and_self, Bool.true_and]
  rcases h.how with e | e | e
  · exact absurd e h0
  · have : (logD d).y = true := decide_eq_true e
    rw [this]; rfl
  · obtain ⟨z1, z2⟩ := h.no e
    have : decide ((logD d).t = 0 ∧ (logD d).n = 0) = true := decide_eq_true ⟨z1, z2⟩
    rw [this, Bool.or_true]
theorem rec_log {d : DecC} (h0 : d.how ≠ 0) : recC [d] d.id = some (logD d) := by
  unfold recC
  rw [getC_one]
  exact if_neg h0
/-- Played anew, it is decided as it was, and all its parts owe. -/
theorem play_log {d : DecC} (h : DecK d) (h0 : d.how ≠ 0) : playC [] (logD d) = (0, [saidC (logD d)]) ∧ decC [saidC (logD d)] d.id = decC [d] d.id ∧ owesC [saidC (logD d)] d.id = d.parts := by
  have hid : (saidC (logD d)).id = d.id := rfl
  refine ⟨?_, ?_, ?_⟩
  · unfold playC
    rw [if_neg (by rw [logD_good h h0]; simp [logD])]
    rfl
  · unfold decC
    rw [getC_one, ← hid, getC_one]
    show (if (if (logD d).y then (1 : Int) else 2) = 0 then _ else _) = if d.how = 0 then _ else _
    rw [if_neg h0, if_neg (by split <;> omega)]
    rcases h.how with e | e | e
    · exact absurd e h0
    · have hy : (logD d).y = true := decide_eq_true e
      show (true, decide ((if (logD d).y then (1 : Int) else 2) = 1), d.at_, d.an) = _
      rw [hy, e]; rfl
    · have hy : (logD d).y = false := decide_eq_false (by omega)
      show (true, decide ((if (logD d).y then (1 : Int) else 2) = 1), d.at_, d.an) = _
      rw [hy, e]; rfl
  · unfold owesC
    rw [← hid, getC_one]
    exact owes_none d.parts
end Go.Proofs.Ytcppihpehipelaa
