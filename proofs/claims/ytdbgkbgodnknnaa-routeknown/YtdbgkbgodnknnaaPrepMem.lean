/-
  The document's own tables (hourglassref10: Table) in memory: entries of six cells each, each with a list of writes that lies elsewhere.
-/
import Derived.Test.YtdbgkbgodnknnaaPrepPlain
import Derived.Test.YtdbgkbgodnknnaaWrtMem
import Derived.Test.YtdbgkbgodnknnaaFoot
namespace Go.Proofs.Ytdbgkbgodnknnaa
open Go.RowKit
set_option linter.unusedVariables false

/-- An entry in memory: where its writes lie. -/
structure EntM where
  e : Ent
  a : Option Addr
  c : Nat
def encE (x : EntM) : List Value := [.int .i64 x.e.id, .int .i64 x.e.s, .int .u8 x.e.m, .int .i64 x.e.t, .int .u8 x.e.n, .slice x.a x.e.l.length x.c]
abbrev ev (x : EntM) : Value := .agg (encE x).toArray
/-- What an entry's numbers are. -/
structure EntOk (e : Ent) : Prop where
  id : -9223372036854775808 ≤ e.id ∧ e.id ≤ 9223372036854775807
  s : -9223372036854775808 ≤ e.s ∧ e.s ≤ 9223372036854775807
  m : 0 ≤ e.m ∧ e.m ≤ 255
  t : -9223372036854775808 ≤ e.t ∧ e.t ≤ 9223372036854775807
  n : 0 ≤ e.n ∧ e.n ≤ 255
/-- Its writes. -/
structure EntW (w : World) (x : EntM) : Prop where
  wr : WrtsAt w x.a x.e.l
  room : x.e.l.length ≤ x.c
  few : x.e.l.length ≤ 1000000
  ok : EntOk x.e
theorem EntW.past {w w' : World} {x : EntM} (h : EntW w x) (hb : Below w.heap.size w w') : EntW w' x := ⟨h.wr.past hb, h.room, h.few, h.ok⟩
theorem WrtsAt.keptP {u u' : World} {a : Option Addr} {l : List Wrt} (h : WrtsAt u a l) (hk : l ≠ [] → ∀ b o, a = some ⟨b, o, none⟩ → u'.heap[b]? = u.heap[b]?) : WrtsAt u' a l := by
  refine ⟨?_, h.oks⟩
  rcases h.cells with e | ⟨b, o, e, hc⟩
  · exact .inl e
  · by_cases hl : l = []
    · exact .inl hl
    · exact .inr ⟨b, o, e, fun i W hW => ⟨lies_of fun j v hv => by rw [cell_kept (hk hl b o e)]; exact (hc i W hW).lies.at j v hv⟩⟩
theorem EntW.kept {u u' : World} {x : EntM} (h : EntW u x) (hk : x.e.l ≠ [] → ∀ b o, x.a = some ⟨b, o, none⟩ → u'.heap[b]? = u.heap[b]?) : EntW u' x := ⟨h.wr.keptP hk, h.room, h.few, h.ok⟩
/-- An entry at a place. -/
structure EntAt (w : World) (b o : Nat) (x : EntM) : Prop where
  lies : Lies w (some ⟨b, o, none⟩) (encE x)
theorem EntAt.past {w w' : World} {b o : Nat} {x : EntM} (h : EntAt w b o x) (hb : Below w.heap.size w w') : EntAt w' b o x := ⟨h.lies.past hb⟩
theorem EntAt.cells {w : World} {b o : Nat} {x : EntM} (h : EntAt w b o x) : w.cell? ⟨b, o, none⟩ = some (.int .i64 x.e.id) ∧ w.cell? ⟨b, o + 1, none⟩ = some (.int .i64 x.e.s) ∧ w.cell? ⟨b, o + 2, none⟩ = some (.int .u8 x.e.m) ∧ w.cell? ⟨b, o + 3, none⟩ = some (.int .i64 x.e.t) ∧ w.cell? ⟨b, o + 4, none⟩ = some (.int .u8 x.e.n) ∧ w.cell? ⟨b, o + 5, none⟩ = some (.slice x.a x.e.l.length x.c) :=
  ⟨h.lies.at 0 _ rfl, h.lies.at 1 _ rfl, h.lies.at 2 _ rfl, h.lies.at 3 _ rfl, h.lies.at 4 _ rfl, h.lies.at 5 _ rfl⟩
end Go.Proofs.Ytdbgkbgodnknnaa
