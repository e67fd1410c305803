/-
  Chapter 18 in plain words: what is logged and played is as it was decided; what calls keep of each.
-/
import Derived.Test.YtcppihpehipelaaCoordPlain
namespace Go.Proofs.Ytcppihpehipelaa
open Go.RowKit
set_option linter.unusedVariables false

theorem owes_none : ∀ (l : List Int), ((l.zip (List.replicate l.length false)).filter (fun x => !x.2)).map (fun x => x.1) = l
  | [] => rfl
  | a :: r => by
    rw [List.length_cons, List.replicate_succ, List.zip_cons_cons, List.filter_cons]
    simp only [Bool.not_false, if_true, List.map_cons]
    rw [owes_none r]
/-- What calls keep of each. -/
structure DecK (d : DecC) : Prop where
  id : 1 ≤ d.id
  st : okS d.st
  parts : partsB d.parts = true
  votes : d.votes.length = d.parts.length
  acks : d.acks.length = d.parts.length
  how : d.how = 0 ∨ d.how = 1 ∨ d.how = 2
  at_ : okS d.at_
  no : d.how = 2 → d.at_ = 0 ∧ d.an = 0
theorem okS_zero : okS 0 := by unfold okS; omega
theorem mxS_ok {t n t' n' : Int} (h : okS t) (h' : okS t') : okS (mxS t n t' n').1 := by
  unfold mxS
  split
  · exact h'
  · exact h
theorem DecK.new {id st sn : Int} {l : List Int} (h : ¬ (id < 1 ∨ ¬ okS st ∨ partsB l = false)) : DecK (newC id st sn l) := by
  have h1 : 1 ≤ id := by
    rcases Int.lt_or_le id 1 with h' | h'
    · exact absurd (.inl h') h
    · exact h'
  have h2 : okS st := Classical.byContradiction fun e => h (.inr (.inl e))
  have h3 : partsB l = true := by
    cases e : partsB l with
    | true => rfl
    | false => exact absurd (.inr (.inr e)) h
  exact ⟨h1, h2, h3, by simp [newC], by simp [newC], .inl rfl, okS_zero, fun e => by simp [newC] at e⟩
theorem DecK.noD {d : DecC} (h : DecK d) : DecK (noD d) := ⟨h.id, h.st, h.parts, h.votes, h.acks, .inr (.inr rfl), okS_zero, fun _ => ⟨rfl, rfl⟩⟩
theorem DecK.yesD {d : DecC} (h : DecK d) (k : Nat) {t n : Int} (ht : okS t) : DecK (yesD d k t n) := by
  refine ⟨h.id, h.st, h.parts, by show (d.votes.set k true).length = _; rw [List.length_set]; exact h.votes, h.acks, ?_, mxS_ok h.at_ ht, fun e => ?_⟩
  · show (if _ then _ else _) = _ ∨ (if _ then _ else _) = _ ∨ _
    split
    · exact .inr (.inl rfl)
    · exact .inl rfl
  · have : (if (d.votes.set k true).all _root_.id then (1 : Int) else 0) = 2 := e
    split at this <;> omega
theorem DecK.voteD {d : DecC} (h : DecK d) (p : Int) (y : Bool) (t n : Int) : DecK (voteD d p y t n).2 := by
  unfold Go.Proofs.Ytcppihpehipelaa.voteD
  split
  · exact h
  · split
    · exact h
    · next h2 =>
      split
      · exact h
      · split
        · exact h.noD
        · next hy =>
          refine h.yesD _ (Classical.byContradiction fun e => h2 ⟨?_, .inl e⟩)
          cases y with
          | true => rfl
          | false => exact absurd rfl hy
theorem DecK.giveD {d : DecC} (h : DecK d) : DecK (giveD d) := by
  unfold Go.Proofs.Ytcppihpehipelaa.giveD
  split
  · exact h.noD
  · exact h
theorem DecK.ackD {d : DecC} (h : DecK d) (p : Int) : DecK (ackD d p).2 := by
  unfold Go.Proofs.Ytcppihpehipelaa.ackD
  split
  · exact h
  · split
    · exact h
    · exact ⟨h.id, h.st, h.parts, h.votes, by show (d.acks.set _ true).length = _; rw [List.length_set]; exact h.acks, h.how, h.at_, h.no⟩
end Go.Proofs.Ytcppihpehipelaa
