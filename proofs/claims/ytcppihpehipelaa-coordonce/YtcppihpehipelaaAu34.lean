/-
  The document's own table of decisions (chapter 18) in memory: what reads of it ask.
  The document's own table of decisions: at, place.
  The document's own table of decisions: Decision, Owes.
-/
import Derived.Test.YtcppihpehipelaaAu56
import Derived.Test.YtcppihpehipelaaEls
import Derived.Test.YtcppihpehipelaaAu24
import Derived.Test.YtcppihpehipelaaFoot
import Derived.BigQuiet
import Derived.Test.YtcppihpehipelaaAu51
import Derived.Deep.MidRow
namespace Go.Proofs.Ytcppihpehipelaa
open Go.RowKit
set_option linter.unusedVariables false
set_option linter.unusedSimpArgs false

/-- A list of numbers, of truths, that lies somewhere. -/
def NumsD (w : World) (a : Option Addr) (zs : List Int) : Prop := ∀ (i : Nat) (z : Int), zs[i]? = some z → ∃ g, a = some ⟨g, 0, none⟩ ∧ w.cell? ⟨g, i, none⟩ = some (.int .i64 z)
theorem NumsD.past {w w' : World} {a : Option Addr} {zs : List Int} (h : NumsD w a zs) (hb : Below w.heap.size w w') : NumsD w' a zs := fun i z hz => by
  obtain ⟨g, e, hc⟩ := h i z hz
  exact ⟨g, e, (hb.cell (p := ⟨g, i, none⟩) (cell_lt hc)).trans hc⟩
def BoolsD (w : World) (a : Option Addr) (bs : List Bool) : Prop := ∀ (i : Nat) (b : Bool), bs[i]? = some b → ∃ g, a = some ⟨g, 0, none⟩ ∧ w.cell? ⟨g, i, none⟩ = some (.bool b)
theorem BoolsD.past {w w' : World} {a : Option Addr} {bs : List Bool} (h : BoolsD w a bs) (hb : Below w.heap.size w w') : BoolsD w' a bs := fun i z hz => by
  obtain ⟨g, e, hc⟩ := h i z hz
  exact ⟨g, e, (hb.cell (p := ⟨g, i, none⟩) (cell_lt hc)).trans hc⟩
/-- One that is to be decided, and where its lists lie. -/
structure OneM where
  d : DecC
  pa : Option Addr
  pc : Nat
  va : Option Addr
  vc : Nat
  aa : Option Addr
  ac : Nat
def encO (x : OneM) : List Value := [.int .i64 x.d.id, .int .i64 x.d.st, .int .u8 x.d.sn, .slice x.pa x.d.parts.length x.pc, .slice x.va x.d.votes.length x.vc, .int .i64 x.d.how, .int .i64 x.d.at_, .int .u8 x.d.an, .slice x.aa x.d.acks.length x.ac]
structure OneAt (w : World) (g o : Nat) (x : OneM) : Prop where
  lies : Lies w (some ⟨g, o, none⟩) (encO x)
  parts : NumsD w x.pa x.d.parts
  pr : x.d.parts.length ≤ x.pc
  votes : BoolsD w x.va x.d.votes
  vr : x.d.votes.length ≤ x.vc
  acks : BoolsD w x.aa x.d.acks
  ar : x.d.acks.length ≤ x.ac
theorem OneAt.past {w w' : World} {g o : Nat} {x : OneM} (h : OneAt w g o x) (hb : Below w.heap.size w w') : OneAt w' g o x :=
  ⟨h.lies.past hb, h.parts.past hb, h.pr, h.votes.past hb, h.vr, h.acks.past hb, h.ar⟩
theorem OneAt.cells {w : World} {g o : Nat} {x : OneM} (h : OneAt w g o x) : w.cell? ⟨g, o, none⟩ = some (.int .i64 x.d.id) ∧ w.cell? ⟨g, o + 1, none⟩ = some (.int .i64 x.d.st) ∧ w.cell? ⟨g, o + 2, none⟩ = some (.int .u8 x.d.sn) ∧ w.cell? ⟨g, o + 3, none⟩ = some (.slice x.pa x.d.parts.length x.pc) ∧ w.cell? ⟨g, o + 4, none⟩ = some (.slice x.va x.d.votes.length x.vc) ∧ w.cell? ⟨g, o + 5, none⟩ = some (.int .i64 x.d.how) ∧ w.cell? ⟨g, o + 6, none⟩ = some (.int .i64 x.d.at_) ∧ w.cell? ⟨g, o + 7, none⟩ = some (.int .u8 x.d.an) ∧ w.cell? ⟨g, o + 8, none⟩ = some (.slice x.aa x.d.acks.length x.ac) :=
  ⟨h.lies.at 0 _ rfl, h.lies.at 1 _ rfl, h.lies.at 2 _ rfl, h.lies.at 3 _ rfl, h.lies.at 4 _ rfl, h.lies.at 5 _ rfl, h.lies.at 6 _ rfl, h.lies.at 7 _ rfl, h.lies.at 8 _ rfl⟩
/-- The table: where it lies, what is in it. -/
structure CrdV (w : World) (q : Nat) (M : List OneM) : Prop where
  lies : ∃ a c, w.cell? ⟨q, 0, none⟩ = some (.slice a M.length c) ∧ M.length ≤ c ∧ ∀ (i : Nat) (x : OneM), M[i]? = some x → ∃ g, a = some ⟨g, 0, none⟩ ∧ OneAt w g (i * 9) x
theorem CrdV.past {w w' : World} {q : Nat} {M : List OneM} (h : CrdV w q M) (hb : Below w.heap.size w w') : CrdV w' q M := by
  obtain ⟨a, c, h1, h2, h3⟩ := h.lies
  refine ⟨a, c, (hb.cell (p := ⟨q, 0, none⟩) (cell_lt h1)).trans h1, h2, fun i x hx => ?_⟩
  obtain ⟨g, e, ho⟩ := h3 i x hx
  exact ⟨g, e, ho.past hb⟩
theorem CrdV.open {w : World} {q N : Nat} {M : List OneM} (h : CrdV w q M) (hN : M.length = N) : ∃ a c, N ≤ c ∧ (∀ u, Below w.heap.size w u → u.cell? ⟨q, 0, none⟩ = some (.slice a N c)) ∧ ∀ (i : Nat) (x : OneM), M[i]? = some x → ∃ g, a = some ⟨g, 0, none⟩ ∧ ∀ u, Below w.heap.size w u → OneAt u g (i * 9) x := by
  subst hN
  obtain ⟨a, c, h1, h2, h3⟩ := h.lies
  refine ⟨a, c, h2, fun u hb => (hb.cell (p := ⟨q, 0, none⟩) (cell_lt h1)).trans h1, fun i x hx => ?_⟩
  obtain ⟨g, e, ho⟩ := h3 i x hx
  exact ⟨g, e, fun u hb => ho.past hb⟩
end Go.Proofs.Ytcppihpehipelaa

namespace Go.Proofs.Ytcppihpehipelaa
open Go.RowKit
set_option linter.unusedVariables false
set_option linter.unusedSimpArgs false

end Go.Proofs.Ytcppihpehipelaa

namespace Go.Proofs.Ytcppihpehipelaa
open Go.RowKit
set_option linter.unusedVariables false
set_option linter.unusedSimpArgs false

theorem info_stC : (Try.prog.info? 28).map (·.size) = some 2 := by kernel_rfl
theorem results_3sC {fn : Func} {a b c : Tmp} (h : fn.results = #[.tmp a, .tmp b, .cell c 28]) (tmps : Array Value) (w : World) (g : Nat) (t n : Int) (hp : tmps.getD c undef = .pointer (some ⟨g, 0, none⟩)) (c0 : w.cell? ⟨g, 0, none⟩ = some (.int .i64 t)) (c1 : w.cell? ⟨g, 1, none⟩ = some (.int .u8 n)) :
    (results fn tmps).run Try.prog w = .ok (.tuple #[tmps.getD a undef, tmps.getD b undef, .agg #[.int .i64 t, .int .u8 n]]) w := by
  have hl := run_loadVar_mid (P := Try.prog) w g 0 28 [.int .i64 t, .int .u8 n] _ (fun j v hv => by
    have hj : j = 0 ∨ j = 1 := by
      have := (List.getElem?_eq_some_iff.1 hv).1
      simp at this; omega
    rw [Nat.zero_add]
    rcases hj with rfl | rfl <;> (injection hv with hv; rw [← hv]; assumption)) Try.underlying28 rfl (by rw [info_stC]; rfl)
  unfold results
  rw [h]
  simp only [List.mapM_toArray, List.mapM_cons, List.mapM_nil, hp]
  simp [asAddr, hl]
/-- A stamp's box under a store of both its cells. -/
theorem box_setC {W : World} {g : Nat} {t0 n0 : Int} (t n : Int) (c0 : W.cell? ⟨g, 0, none⟩ = some (.int .i64 t0)) (c1 : W.cell? ⟨g, 1, none⟩ = some (.int .u8 n0)) : ((W.setCell ⟨g, 0, none⟩ (.int .i64 t)).setCell ⟨g, 1, none⟩ (.int .u8 n)).cell? ⟨g, 0, none⟩ = some (.int .i64 t) ∧ ((W.setCell ⟨g, 0, none⟩ (.int .i64 t)).setCell ⟨g, 1, none⟩ (.int .u8 n)).cell? ⟨g, 1, none⟩ = some (.int .u8 n) := by
  constructor
  · rw [World.cell?_setCell_other _ _ _ _ (by intro h; injection h with _ h2; omega)]
    exact World.cell?_setCell_same _ _ _ c0
  · refine World.cell?_setCell_same (u := .int .u8 n0) _ _ _ ?_
    rw [World.cell?_setCell_other _ _ _ _ (by intro h; injection h with _ h2; omega)]
    exact c1
theorem there2C {W : World} {g : Nat} {t0 n0 : Int} (c0 : W.cell? ⟨g, 0, none⟩ = some (.int .i64 t0)) (c1 : W.cell? ⟨g, 1, none⟩ = some (.int .u8 n0)) (f0 : W.frozen? ⟨g, 0, none⟩ = false) (f1 : W.frozen? ⟨g, 1, none⟩ = false) : W.there g 0 2 := fun j hj => by
  have h : j = 0 ∨ j = 1 := by omega
  rcases h with rfl | rfl
  · exact ⟨by rw [c0]; rfl, f0⟩
  · exact ⟨by rw [c1]; rfl, f1⟩
end Go.Proofs.Ytcppihpehipelaa

