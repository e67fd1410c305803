/-
  What the landed route answers: Split.
-/
import Derived.Test.YtdbgkbgodnknnaaRouC3
import Derived.Test.YtdbgkbgodnknnaaRegUpto
namespace Go.Proofs.Ytdbgkbgodnknnaa
open Go.RowKit
set_option linter.unusedVariables false
set_option linter.unusedSimpArgs false

/-- One more write laid into its node's list, as a walk through Split finds it. -/
theorem OwnL.next {w0 u u1 u2 : World} {g i m : Nat} {P : List (List Int)} {l : List Wrt} {W : Wrt} {a : Option Addr} {c n : Nat} {v' : Value} (h : OwnL w0 u g (splitR P (l.take i))) (hW : l[i]? = some W) (hm : ofR P W.k = (m : Int)) (hml : m < P.length + 1) (hn : (nodeW P (l.take i) m).length = n) (hv : u.cell? ⟨g, m, none⟩ = some (.slice a n c)) (hok : WrtOk W)
    (hb : Below u.heap.size u u1) (hg : u1.grownBy u2 (Value.slice a n c).ownBlock) (ho : u2.ownsRow w0.heap.size 32 18 v' (n + 1) ((nodeW P (l.take i) m).flatMap encW ++ encW W)) (hat : v'.ownBlock = (Value.slice a n c).ownBlock ∨ v'.ownBlock = some u1.heap.size) :
    OwnL w0 (u2.setCell ⟨g, m, none⟩ v') g (splitR P (l.take (i + 1))) := by
  subst hn
  rw [split_next hW hm hml]
  exact h.put (split_at hml) hv hok hb hg ho hat
end Go.Proofs.Ytdbgkbgodnknnaa
