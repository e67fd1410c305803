/-
  Stretches of keys at a time, and what a trim leaves of them. No program is named here.
-/
import Derived.Test.YtdbgkbgodnknnaaStoreAt
namespace Go.Proofs.Ytdbgkbgodnknnaa
open Go.RowKit
set_option linter.unusedVariables false

/-- What a store holds: in order; each version may be; no key has more than fifty. -/
structure StoK (L : List Ver) : Prop where
  ord : OrdK L
  may : ∀ V ∈ L, mayV V = true
  ins : ∀ V ∈ L, 0 ≤ V.n ∧ V.n ≤ 255 ∧ ∀ z ∈ V.v, 0 ≤ z ∧ z ≤ 255
  few : ∀ k, kMany L k ≤ 50
theorem StoK.nil : StoK [] := ⟨List.Pairwise.nil, fun V h => by simp at h, fun V h => by simp at h, fun k => by have := kMany_le [] k; simp at this; omega⟩
theorem chain_sub {L : List Ver} {k : List Int} {V : Ver} (h : V ∈ chainV L k) : V ∈ L := List.mem_of_mem_drop (List.mem_of_mem_take h)
theorem StoK.chn {L : List Ver} (h : StoK L) (k : List Int) : Chn (oneV L k) := by
  refine ⟨one_bare _, ups_chain h.ord k, fun V hV => ?_, fun V hV => ?_, by rw [one_len]; exact h.few k⟩
  · obtain ⟨X, hX, e⟩ := List.mem_map.1 hV
    rw [← e, bare_may]
    exact h.may X (chain_sub hX)
  · obtain ⟨X, hX, e⟩ := List.mem_map.1 hV
    rw [← e]
    exact h.ins X (chain_sub hX)
theorem mem_put {L : List Ver} {V X : Ver} (hX : X ∈ (putV L V).2) : X ∈ L ∨ (X = V ∧ mayV V = true) := by
  unfold putV at hX
  by_cases h1 : mayV V = false
  · rw [if_pos h1] at hX; exact .inl hX
  · rw [if_neg h1] at hX
    by_cases h2 : clashV L V = true
    · rw [if_pos h2] at hX; exact .inl hX
    · rw [if_neg h2] at hX
      by_cases h3 : 50 ≤ kMany L V.k
      · rw [if_pos h3] at hX; exact .inl hX
      · rw [if_neg h3] at hX
        rcases (mem_ins _).1 hX with e | e
        · exact .inr ⟨e, by simpa using h1⟩
        · exact .inl e
theorem StoK.put {L : List Ver} (h : StoK L) {V : Ver} (hb : 0 ≤ V.n ∧ V.n ≤ 255 ∧ ∀ z ∈ V.v, 0 ≤ z ∧ z ≤ 255) : StoK (putV L V).2 := by
  refine ⟨ord_put h.ord V, fun X hX => ?_, fun X hX => ?_, fun k => ?_⟩
  · rcases mem_put hX with e | ⟨rfl, e⟩
    · exact h.may X e
    · exact e
  · rcases mem_put hX with e | ⟨rfl, _⟩
    · exact h.ins X e
    · exact hb
  · by_cases hk : k = V.k
    · rw [hk, ← one_len, put_own h.ord]
      exact ((h.chn V.k).put (V := bare V) rfl hb).few
    · rw [← one_len, put_other h.ord V k hk, one_len]
      exact h.few k
theorem StoK.rest {L : List Ver} (h : StoK L) (t n : Int) : StoK (restV L t n) := by
  refine ⟨ord_rest h.ord t n, fun V hV => h.may V (List.mem_filter.1 hV).1, fun V hV => h.ins V (List.mem_filter.1 hV).1, fun k => ?_⟩
  rw [← one_len, rest_own h.ord]
  exact ((h.chn k).rest t n).few
/-- May writes be (but for their stamp): so many, each may be, no key twice. -/
def mayW (l : List Wrt) (least : Nat) : Bool := decide (least ≤ l.length ∧ l.length ≤ 16) && l.all (fun W => goodK W.k && decide (W.v.length ≤ 200) && (!W.g || decide (W.v = []))) && decide (l.Pairwise fun A B => A.k ≠ B.k)
end Go.Proofs.Ytdbgkbgodnknnaa
