/-
  Whether one of a chain's is behind a time and not behind another.
-/
import Derived.Test.YtimiciellbdphaaChainFacts
import Derived.Test.YtimiciellbdphaaVersOpen
namespace Go.Proofs.Ytimiciellbdphaa
set_option linter.unusedVariables false

/-! ### between -/
def Btw (L : List Ver) (a b c d : Int) : Prop := ∃ X ∈ L, ltS a b X.t X.n ∧ ¬ ltS c d X.t X.n
theorem btw_nil {a b c d : Int} : false = true ↔ Btw [] a b c d := by unfold Btw; simp
theorem btw_put {L : List Ver} {V : Ver} (h : Chn L) (hV : V.k = zeroK) (hf : L.length < 50) {a b c d : Int} : Btw (putV L V).2 a b c d ↔ Btw L a b c d ∨ ((putV L V).1 = 0 ∧ ltS a b V.t V.n ∧ ¬ ltS c d V.t V.n) := by
  unfold Btw
  constructor
  · rintro ⟨X, hX, e⟩
    rcases (put_mem h hV hf).1 hX with h1 | ⟨h1, h2⟩
    · exact .inl ⟨X, h1, e⟩
    · rw [h1] at e; exact .inr ⟨h2, e⟩
  · rintro (⟨X, hX, e⟩ | ⟨h2, e⟩)
    · exact ⟨X, (put_mem h hV hf).2 (.inl hX), e⟩
    · exact ⟨V, (put_mem h hV hf).2 (.inr ⟨rfl, h2⟩), e⟩
theorem CVersOf.pv {w : World} {a : Option Addr} {c : Nat} {l : List Ver} (h : CVersOf w a c l) : ∀ V ∈ l, Pv V := fun V hV => ⟨(h.ins V hV).key, (h.ins V hV).n.1, (h.ins V hV).n.2, (h.ins V hV).val⟩
end Go.Proofs.Ytimiciellbdphaa
