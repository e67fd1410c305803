/-
  An act of layer 16 in a variable of its own; acts whose writes are few.
  A key and a stamp that came in, in boxes; what was read and is read again.
  What is prepared stays so and can be committed, over a landed part.
  A landed part, the document's own and an act in a box: what each call leaves; two lists of numbers; a record as the document's own.
  A struct of two integers that came in, by value.
-/
import Derived.Test.YtileidbdmpeciaaGreatAu116
import Derived.Test.YtileidbdmpeciaaGreatAu81
import Derived.Test.YtileidbdmpeciaaGreatAu108
import Derived.Deep.DeepCutAuto
import Derived.Deep.CutBlock
import Derived.Test.YtileidbdmpeciaaGreatAu104
import Derived.Test.YtileidbdmpeciaaGreatAu94
import Derived.Test.YtileidbdmpeciaaGreatStoL3
import Derived.Test.YtileidbdmpeciaaGreatProg
import Derived.ProofKit
import Derived.OpenShut
import Derived.ChangeSame
import Derived.Below
namespace Go.Proofs.YtileidbdmpeciaaGreat
open Go.RowKit
set_option linter.unusedVariables false

theorem info_qact : (Tryz.prog.info? 55).map (·.size) = some 18 := by kernel_rfl
abbrev qv (y : QAct) : Value := .agg (encQ y).toArray
def zeroR : RcM := ⟨⟨0, 0, 0, 0, 0, 0, [], false, []⟩, none, 0, none, 0⟩
def zeroQ : QAct := ⟨0, zeroE, 0, 0, zeroR⟩
theorem zeroQ_cells : (encQ zeroQ).toArray = #[.int .i64 0, .int .i64 0, .int .i64 0, .int .u8 0, .int .i64 0, .int .u8 0, .slice none 0 0, .int .i64 0, .int .u8 0, .int .i64 0, .int .i64 0, .int .i64 0, .int .u8 0, .int .i64 0, .int .u8 0, .slice none 0 0, .bool false, .slice none 0 0] := rfl
theorem encQ_one (y : QAct) : ∀ u ∈ encQ y, u.oneCell' = true := by
  intro u hu
  unfold encQ at hu
  rcases List.mem_cons.1 hu with e | e
  · rw [e]; rfl
  rcases List.mem_append.1 e with e | e
  · exact encE_one _ u e
  rcases List.mem_cons.1 e with e | e
  · rw [e]; rfl
  rcases List.mem_cons.1 e with e | e
  · rw [e]; rfl
  exact encR_one _ u e
theorem encQ_all (y : QAct) : (encQ y).toArray.all (·.oneCell') = true := all_oneCell_toArray (encQ_one y)
theorem QActAt.op {w : World} {b o : Nat} {y : QAct} (h : QActAt w b o y) : w.cell? ⟨b, o, none⟩ = some (.int .i64 y.op) := h.lies.at 0 _ rfl
theorem QActAt.lt {w : World} {b o : Nat} {y : QAct} (h : QActAt w b o y) : b < w.heap.size := cell_lt h.op
theorem QActAt.ent {w : World} {b o : Nat} {y : QAct} (h : QActAt w b o y) : EntAt w b (o + 1) y.x := ⟨lies_of fun j v hj => by
  have hjl : j < 6 := by have := (List.getElem?_eq_some_iff.1 hj).1; rwa [encE_len] at this
  have h2 : (encQ y)[1 + j]? = some v := by
    unfold encQ
    rw [Nat.add_comm 1 j, List.getElem?_cons_succ, List.getElem?_append_left (by rw [encE_len]; exact hjl)]
    exact hj
  have := h.lies.at (1 + j) v h2
  rwa [← Nat.add_assoc] at this⟩
theorem QActAt.st {w : World} {b o : Nat} {y : QAct} (h : QActAt w b o y) : w.cell? ⟨b, o + 7, none⟩ = some (.int .i64 y.t) ∧ w.cell? ⟨b, o + 8, none⟩ = some (.int .u8 y.n) := ⟨h.lies.at 7 _ rfl, h.lies.at 8 _ rfl⟩
theorem QActAt.rcd {w : World} {b o : Nat} {y : QAct} (h : QActAt w b o y) : Lies w (some ⟨b, o + 9, none⟩) (encR y.r) := lies_of fun j v hj => by
  have h2 : (encQ y)[9 + j]? = some v := by
    unfold encQ
    rw [show 9 + j = (8 + j) + 1 by omega, List.getElem?_cons_succ, List.getElem?_append_right (by rw [encE_len]; omega), encE_len, show 8 + j - 6 = j + 1 + 1 by omega, List.getElem?_cons_succ, List.getElem?_cons_succ]
    exact hj
  have := h.lies.at (9 + j) v h2
  rwa [← Nat.add_assoc] at this
theorem QActAt.kept {u u' : World} {b o : Nat} {y : QAct} (h : QActAt u b o y) (hk : u'.heap[b]? = u.heap[b]?) : QActAt u' b o y := ⟨lies_of fun j v hj => by rw [cell_kept hk]; exact h.lies.at j v hj⟩
/-- An act in a box. -/
structure QMine (w : World) (b : Nat) (y : QAct) : Prop where
  at_ : QActAt w b 0 y
  free : ∀ i, i < 18 → w.frozen? ⟨b, 0 + i, none⟩ = false
theorem QMine.made (w : World) (T : TypeId) (y : QAct) : QMine (w.alloc (.cells (encQ y).toArray T)) w.heap.size y :=
  ⟨⟨lies_made w (encQ y).toArray T⟩, fun i hi => World.frozen?_alloc_new _ _ _ _⟩
theorem QMine.past {w w' : World} {b : Nat} {y : QAct} (h : QMine w b y) (hb : Below w.heap.size w w') : QMine w' b y :=
  ⟨h.at_.past hb, fun i hi => by rw [hb.frozen (p := ⟨b, 0 + i, none⟩) h.at_.lt]; exact h.free i hi⟩
theorem QMine.there {w : World} {b : Nat} {y : QAct} (h : QMine w b y) : w.there b 0 18 := fun j hj => by
  obtain ⟨u, hu⟩ : ∃ u, (encQ y)[j]? = some u := ⟨_, List.getElem?_eq_getElem (by rw [encQ_len]; exact hj)⟩
  exact ⟨by rw [h.at_.lies.at j u hu]; rfl, h.free j hj⟩
theorem QMine.store {w : World} {b : Nat} {y y' : QAct} (h : QMine w b y) : QMine (w.setCells b 0 (encQ y')) b y' := by
  have ht := h.there
  rw [← encQ_len y'] at ht
  exact ⟨⟨lies_of (World.rangeAt_setCells_same w b 0 (encQ y') ht)⟩, fun i hi => by rw [World.frozen?_setCells]; exact h.free i hi⟩
theorem wpList_load_qact (d : Tmp) {ops : Array Oper} {rest : List Oper} {op : Oper} {a : Act} {w : World} {Q : Exit → Act → World → Prop} (hd : op.dst = some d) (hw : Region.wanted op (yielded ops a.tmps) = true) (x : Operand) (ho : op.op = .load 55 x)
    (b o : Nat) (hx : a.eval x = .pointer (some ⟨b, o, none⟩)) (y : QAct) (hat : QActAt w b o y)
    (h : wpList Tryz.prog ops Q rest (a.put op.dst (qv y)) w) : wpList Tryz.prog ops Q (op :: rest) a w :=
  wpList_step fun K hK => by
    rw [if_pos hw]
    exact wp_load_mid 55 x ho b o hx (encQ y) _ hat.lies.range Tryz.underlying55 rfl (by rw [info_qact, encQ_len]) (hK _ _ h)
theorem wpList_store_qact (d : Operand) {ops : Array Oper} {rest : List Oper} {op : Oper} {a : Act} {w : World} {Q : Exit → Act → World → Prop} (hgd : op.guard = none) (y : Operand) (ho : op.op = .store 55 d y)
    (b : Nat) (X X' : QAct) (hx : a.eval d = .pointer (some ⟨b, 0, none⟩)) (hy : a.eval y = qv X') (hat : QMine w b X)
    (h : ∀ u, u = w.setCells b 0 (encQ X') → wpList Tryz.prog ops Q rest (a.put op.dst undef) u) : wpList Tryz.prog ops Q (op :: rest) a w := by
  refine wpList_store_mid hgd 55 d y ho b 0 (encQ X').toArray hx hy (by rw [show (encQ X').toArray.size = 18 from rfl]; exact hat.there) (by rw [info_qact]; rfl) (encQ_all X') ?_
  exact h _ rfl
theorem EntIn.w {w u : World} {x : EntM} (h : EntIn w x) (hb : Below w.heap.size w u) (hl : longQ x.e.l = false) : EntW u x := by
  refine ⟨h.wr.at_.past hb, h.wr.room, ?_, h.ok⟩
  unfold longQ at hl
  have := (Bool.or_eq_false_iff.1 hl).1
  have := of_decide_eq_false this
  omega
theorem RcIn.w {w u : World} {x : RcM} (h : RcIn w x) (hb : Below w.heap.size w u) (hl : longQ x.r.l = false) (hp : x.r.ps.length ≤ 12) : RcW u x := by
  unfold longQ at hl
  have h1 := (Bool.or_eq_false_iff.1 hl).1
  have h2 := of_decide_eq_false h1
  exact (h.rc (by omega) (by omega)).past hb
theorem PaX.up {w u : World} {p c c' : Nat} {P : PSt} (h : PaX w u p P c) (hc : c ≤ c') : PaX w u p P c' := by
  obtain ⟨s, t, m, M, XS, XT, h1, h2, h3, h4, h5⟩ := h
  exact ⟨s, t, m, M, XS, XT, h1, h2, Nat.le_trans h3 hc, h4, h5⟩
/-- What lies ahead of w stays where it is beside a part that has come since. -/
theorem xanewp {w u : World} (hb : Below w.heap.size w u) : Calls Tryz.prog 9 #[] u fun e w' => ∃ p, e = .returned (.pointer (some ⟨p, 0, none⟩)) ∧ PaX w w' p ⟨[], [], []⟩ 0 := by
  refine (xanew u).mono ?_
  rintro e w' ⟨p, rfl, s, t, m, M, XS, XT, h1, h2, h3, h4, h5⟩
  exact ⟨p, rfl, s, t, m, M, XS, XT, h1, h2, h3, hb.trans (h4.mono hb.size), fun k hk => Nat.le_trans hb.size (h5 k hk)⟩
/-! ### A part beside blocks that stay -/
/-- A part that has come since w; the blocks of F are no part of it. -/
def PaXF (w u : World) (p : Nat) (P : PSt) (c : Nat) (F : Foot) : Prop := ∃ s t m M XS XT, ParI u p s t m P M XS XT ∧ PstK P ∧ P.O.length ≤ c ∧ Below w.heap.size w u ∧ (∀ k, ParX p m XS XT k → w.heap.size ≤ k) ∧ ∀ k, F k → k < u.heap.size ∧ ¬ ParX p m XS XT k
theorem PaX.f {w u : World} {p c : Nat} {P : PSt} (h : PaX w u p P c) : PaXF w u p P c noFoot := by
  obtain ⟨s, t, m, M, XS, XT, h1, h2, h3, h4, h5⟩ := h
  exact ⟨s, t, m, M, XS, XT, h1, h2, h3, h4, h5, fun k hk => hk.elim⟩
theorem PaXF.x {w u : World} {p c : Nat} {P : PSt} {F : Foot} (h : PaXF w u p P c F) : PaX w u p P c := by
  obtain ⟨s, t, m, M, XS, XT, h1, h2, h3, h4, h5, h6⟩ := h
  exact ⟨s, t, m, M, XS, XT, h1, h2, h3, h4, h5⟩
theorem PaXF.more {w u u' : World} {p c : Nat} {P : PSt} {F G : Foot} (h : PaXF w u p P c F) (hb : Below u.heap.size u u') (hG : ∀ k, G k → F k ∨ u.heap.size ≤ k ∧ k < u'.heap.size) : PaXF w u' p P c G := by
  obtain ⟨s, t, m, M, XS, XT, h1, h2, h3, h4, h5, h6⟩ := h
  refine ⟨s, t, m, M, XS, XT, h1.past hb, h2, h3, h4.trans (hb.mono h4.size), h5, fun k hk => ?_⟩
  rcases hG k hk with e | e
  · exact ⟨Nat.lt_of_lt_of_le (h6 k e).1 hb.size, (h6 k e).2⟩
  · exact ⟨e.2, fun hx => by have := h1.lt k hx; omega⟩
theorem PaXF.past {w u u' : World} {p c : Nat} {P : PSt} {F : Foot} (h : PaXF w u p P c F) (hb : Below u.heap.size u u') : PaXF w u' p P c F := h.more hb (fun k hk => .inl hk)
theorem PaXF.turn {w u u' : World} {p s t m c' : Nat} {P P' : PSt} {M : List EntM} {XS XT : Foot} {F : Foot} (h4 : Below w.heap.size w u) (h1 : ParI u p s t m P M XS XT) (h5 : ∀ k, ParX p m XS XT k → w.heap.size ≤ k) (h6 : ∀ k, F k → k < u.heap.size ∧ ¬ ParX p m XS XT k) (hl : ParL u u' p s t m M XS XT P') (hk : PstK P') (hc : P'.O.length ≤ c') : PaXF w u' p P' c' F ∧ ∀ k, F k → u'.heap[k]? = u.heap[k]? := by
  obtain ⟨M', XS', XT', x1, x2, _⟩ := hl
  refine ⟨⟨s, t, m, M', XS', XT', x1, hk, hc, h4.trans (x2.chg.below h4.size h5), fun k hk => (x2.new k hk).1.elim (h5 k) (fun e => Nat.le_trans h4.size e), fun k hk => ⟨Nat.lt_of_lt_of_le (h6 k hk).1 x2.chg.size, fun hx => ?_⟩⟩, fun k hk => x2.chg.block k (h6 k hk).1 (h6 k hk).2⟩
  rcases (x2.new k hx).1 with e | e
  · exact (h6 k hk).2 e
  · have := (h6 k hk).1; omega
end Go.Proofs.YtileidbdmpeciaaGreat

namespace Go.Proofs.YtileidbdmpeciaaGreat
open Go.RowKit
set_option linter.unusedVariables false

/-- The key and the stamp that came in, in their boxes. -/
structure KsB (w u : World) (k : List Int) (t n : Int) : Prop where
  key : KeyAt u w.heap.size 0 k
  c0 : u.cell? ⟨w.heap.size + 1, 0, none⟩ = some (.int .i64 t)
  c1 : u.cell? ⟨w.heap.size + 1, 1, none⟩ = some (.int .u8 n)
theorem KsB.past {w u u' : World} {k : List Int} {t n : Int} (h : KsB w u k t n) (hb : Below u.heap.size u u') : KsB w u' k t n :=
  ⟨h.key.past hb, (hb.cell (p := ⟨w.heap.size + 1, 0, none⟩) (cell_lt h.c0)).trans h.c0, (hb.cell (p := ⟨w.heap.size + 1, 1, none⟩) (cell_lt h.c0)).trans h.c1⟩
theorem KsB.two {w u : World} {k : List Int} {t n : Int} (h : KsB w u k t n) : u.cell? ⟨w.heap.size + 1, 0, none⟩ = some (.int .i64 t) ∧ u.cell? ⟨w.heap.size + 1, 1, none⟩ = some (.int .u8 n) := ⟨h.c0, h.c1⟩
theorem KsB.made (w : World) {k : List Int} (hk : Ky k) (t n : Int) (T T' : TypeId) : KsB w ((w.alloc (.cells (kcs k) T)).alloc (.cells #[.int .i64 t, .int .u8 n] T')) k t n := by
  have e : ∀ o, ((w.alloc (.cells (kcs k) T)).alloc (.cells #[.int .i64 t, .int .u8 n] T')).cell? ⟨w.heap.size + 1, o, none⟩ = (#[.int .i64 t, .int .u8 n] : Array Value)[o]? := fun o => by
    have := World.cell?_alloc_new (w.alloc (.cells (kcs k) T)) #[.int .i64 t, .int .u8 n] T' o
    rw [World.size_alloc] at this
    exact this
  exact ⟨(KeyAt.made w T k hk).past ((Below.refl _ _).alloc (Nat.le_refl _) _), e 0, e 1⟩
/-- A part of which k at t.n is read as G. -/
def StQ (W u : World) (p c : Nat) (k : List Int) (t n : Int) (G : Option (List Int)) : Prop := ∃ P, PaX W u p P c ∧ freeP P.T k t n ∧ getV P.S k t n = G
theorem StQ.below {W u : World} {p c : Nat} {k : List Int} {t n : Int} {G : Option (List Int)} (h : StQ W u p c k t n G) : Below W.heap.size W u := by obtain ⟨P, h1, _⟩ := h; exact h1.below
theorem StQ.past {W u u' : World} {p c : Nat} {k : List Int} {t n : Int} {G : Option (List Int)} (h : StQ W u p c k t n G) (hb : Below u.heap.size u u') : StQ W u' p c k t n G := by
  obtain ⟨P, h1, h2, h3⟩ := h
  exact ⟨P, h1.past hb, h2, h3⟩
theorem StQ.up {W u : World} {p c c' : Nat} {k : List Int} {t n : Int} {G : Option (List Int)} (h : StQ W u p c k t n G) (hc : c ≤ c') : StQ W u p c' k t n G := by
  obtain ⟨P, h1, h2, h3⟩ := h
  exact ⟨P, h1.up hc, h2, h3⟩
end Go.Proofs.YtileidbdmpeciaaGreat

namespace Go.Proofs.YtileidbdmpeciaaGreat
open Go.RowKit
set_option linter.unusedVariables false

theorem own_some {w : World} {B e size n c : Nat} {a : Option Addr} {vs : List Value} (h : w.ownsRow B e size (.slice a n c) n vs) (hn : 0 < n) : ∃ g, a = some ⟨g, 0, none⟩ ∧ n ≤ c := by
  rcases h.2 with ⟨e1, e2⟩ | ⟨g, cap, cur, e1, _, _, e5, _⟩
  · omega
  · cases e1; exact ⟨g, rfl, e5⟩
theorem QActsOf.lies {w : World} {a : Option Addr} {cap : Nat} {ys : List QAct} (h : QActsOf w a cap ys) : Lies w a (ys.flatMap encQ) := by
  rcases h.cells with rfl | ⟨b, off, rfl, hc⟩
  · intro sa hsa
    exact ⟨fun e => absurd rfl e, fun j u hj => by simp at hj⟩
  · refine lies_of fun j v hj => ?_
    have hjl : j < ys.length * 18 := by
      have := (List.getElem?_eq_some_iff.1 hj).1
      rwa [flat_len (size := 18) ys (fun x _ => encQ_len x)] at this
    obtain ⟨hi, e⟩ := flat_get (k := 18) (by omega) (l := ys) (enc := encQ) (fun x _ => encQ_len x) j hjl
    rw [e] at hj
    have := (hc (j / 18) _ (List.getElem?_eq_getElem hi)).lies.at (j % 18) v hj
    rwa [show off + j / 18 * 18 + j % 18 = off + j by omega] at this
theorem QActsOf.ok {w : World} {a : Option Addr} {cap : Nat} {ys : List QAct} (h : QActsOf w a cap ys) : ∀ y ∈ ys, QActOk w y := h.oks
/-- A part; where b, E is prepared in it. -/
def HoQ (W u : World) (p c : Nat) (E : Ent) (b : Bool) : Prop := ∃ P, PaX W u p P c ∧ (b = true → E ∈ P.T)
theorem HoQ.below {W u : World} {p c : Nat} {E : Ent} {b : Bool} (h : HoQ W u p c E b) : Below W.heap.size W u := by obtain ⟨P, h1, _⟩ := h; exact h1.below
theorem HoQ.past {W u u' : World} {p c : Nat} {E : Ent} {b : Bool} (h : HoQ W u p c E b) (hb : Below u.heap.size u u') : HoQ W u' p c E b := by
  obtain ⟨P, h1, h2⟩ := h
  exact ⟨P, h1.past hb, h2⟩
theorem HoQ.up {W u : World} {p c c' : Nat} {E : Ent} {b : Bool} (h : HoQ W u p c E b) (hc : c ≤ c') : HoQ W u p c' E b := by
  obtain ⟨P, h1, h2⟩ := h
  exact ⟨P, h1.up hc, h2⟩
/-- The part beside blocks that stay. -/
def HoF (W u : World) (p c : Nat) (E : Ent) (F : Foot) : Prop := ∃ P, PaXF W u p P c F ∧ E ∈ P.T
theorem HoQ.f {W u : World} {p c : Nat} {E : Ent} (h : HoQ W u p c E true) (o : Obj) : HoF W (u.alloc o) p c E (fun k => k = u.heap.size) := by
  obtain ⟨P, h1, h2⟩ := h
  exact ⟨P, h1.f.more ((Below.refl _ _).alloc (Nat.le_refl _) _) (fun k e => .inr ⟨by rw [e]; exact Nat.le_refl _, by rw [e]; simp⟩), h2 rfl⟩
theorem HoF.past {W u u' : World} {p c : Nat} {E : Ent} {F : Foot} (h : HoF W u p c E F) (hb : Below u.heap.size u u') : HoF W u' p c E F := by
  obtain ⟨P, h1, h2⟩ := h
  exact ⟨P, h1.past hb, h2⟩
theorem HoF.below {W u : World} {p c : Nat} {E : Ent} {F : Foot} (h : HoF W u p c E F) : Below W.heap.size W u := by obtain ⟨P, h1, _⟩ := h; exact h1.x.below
theorem HoQ.okS {W u : World} {p c : Nat} {E : Ent} (h : HoQ W u p c E true) : okS E.t := by
  obtain ⟨P, h1, h2⟩ := h
  have hg := h1.k.tab.good E (h2 rfl)
  unfold goodE at hg
  simp only [Bool.and_eq_true, decide_eq_true_eq] at hg
  exact hg.1.1.2
/-- A part in which E is committed, and read at t.n. -/
def HdQ (W u : World) (p c : Nat) (E : Ent) (t n : Int) : Prop := ∃ P, PaX W u p P c ∧ (∀ V ∈ E.l, readP P V.k t n t = (0, if V.g = true then none else some V.v) ∧ (V.g = true → V.v = [])) ∧ stateP P E.id = 2
theorem HdQ.below {W u : World} {p c : Nat} {E : Ent} {t n : Int} (h : HdQ W u p c E t n) : Below W.heap.size W u := by obtain ⟨P, h1, _⟩ := h; exact h1.below
theorem HdQ.past {W u u' : World} {p c : Nat} {E : Ent} {t n : Int} (h : HdQ W u p c E t n) (hb : Below u.heap.size u u') : HdQ W u' p c E t n := by
  obtain ⟨P, h1, h2⟩ := h
  exact ⟨P, h1.past hb, h2⟩
end Go.Proofs.YtileidbdmpeciaaGreat

namespace Go.Proofs.YtileidbdmpeciaaGreat
open Go.RowKit
set_option linter.unusedVariables false
set_option linter.unusedSimpArgs false

theorem info_rrcdQ : (Tryz.prog.info? 61).map (·.size) = some 9 := by kernel_rfl
theorem info_rcdQ : (Tryz.prog.info? 47).map (·.size) = some 9 := by kernel_rfl
theorem results_rrcdQ {fn : Func} {c : Tmp} (h : fn.results = #[.cell c 61]) (tmps : Array Value) (w : World) (b : Nat) (kd id s m t n : Int) (a : Option Addr) (N cp : Nat) (y : Bool) (pa : Option Addr) (M pc : Nat) (hp : tmps.getD c undef = .pointer (some ⟨b, 0, none⟩)) (hb : RBox w b kd id s m t n a N cp y pa M pc) :
    (results fn tmps).run Tryz.prog w = .ok (.agg #[.int .i64 kd, .int .i64 id, .int .i64 s, .int .u8 m, .int .i64 t, .int .u8 n, .slice a N cp, .bool y, .slice pa M pc]) w := by
  obtain ⟨c0, c1, c2, c3, c4, c5, c6, c7, c8⟩ := hb
  have hl := run_loadVar_mid (P := Tryz.prog) w b 0 61 [.int .i64 kd, .int .i64 id, .int .i64 s, .int .u8 m, .int .i64 t, .int .u8 n, .slice a N cp, .bool y, .slice pa M pc] _ (fun j v hv => by
    have hj : j = 0 ∨ j = 1 ∨ j = 2 ∨ j = 3 ∨ j = 4 ∨ j = 5 ∨ j = 6 ∨ j = 7 ∨ j = 8 := by
      have := (List.getElem?_eq_some_iff.1 hv).1
      simp at this; omega
    rw [Nat.zero_add]
    rcases hj with rfl | rfl | rfl | rfl | rfl | rfl | rfl | rfl | rfl <;> (injection hv with hv; rw [← hv]; assumption)) Tryz.underlying61 rfl (by rw [info_rrcdQ]; rfl)
  unfold results
  rw [h]
  simp only [List.mapM_toArray, List.mapM_cons, List.mapM_nil, hp]
  simp [asAddr, hl]
set_option maxHeartbeats 4000000 in
set_option maxRecDepth 8000 in
theorem qrcd0_any (w : World) (kd id s m t n : Int) (a : Option Addr) (N c : Nat) (y : Bool) (pa : Option Addr) (M pc : Nat) :
    Calls Tryz.prog 28 #[.agg #[.int .i64 kd, .int .i64 id, .int .i64 s, .int .u8 m, .int .i64 t, .int .u8 n, .slice a N c, .bool y, .slice pa M pc]] w fun e w' => e = .returned (.agg #[.int .i64 kd, .int .i64 id, .int .i64 s, .int .u8 m, .int .i64 t, .int .u8 n, .slice a N c, .bool y, .slice pa M pc]) ∧ Below w.heap.size w w' := by
  have hb := RBox.made (w.alloc (.cells #[.int .i64 kd, .int .i64 id, .int .i64 s, .int .u8 m, .int .i64 t, .int .u8 n, .slice a N c, .bool y, .slice pa M pc] 47)) 61 kd id s m t n a N c y pa M pc
  rw [World.size_alloc] at hb
  have HBX : Hid _ := hb
  clear hb
  go_enter Tryz.func28, Tryz.ntmps28
  go_wp2
  exact bodyPost_ret (results_rrcdQ rfl _ _ (w.heap.size + 1) kd id s m t n a N c y pa M pc rfl HBX.out) rfl ⟨rfl, ((Below.refl _ _).alloc (Nat.le_refl _) _).alloc (by simp) _⟩
theorem qrcd_any (x : RcM) (w : World) : Calls Tryz.prog 28 #[rcv x] w fun e w' => e = .returned (rcv x) ∧ Below w.heap.size w w' :=
  qrcd0_any w x.r.kd x.r.id x.r.s x.r.m x.r.t x.r.n x.a x.r.l.length x.c x.r.y x.pa x.r.ps.length x.pc
theorem qentv_any (x : EntM) (w : World) : Calls Tryz.prog 24 #[ev x] w fun e w' => e = .returned (ev x) ∧ Below w.heap.size w w' :=
  qent_any x.e.id x.e.s x.e.m x.e.t x.e.n x.a x.e.l.length x.c w
/-- A list of numbers. -/
def I64L (w : World) (a : Option Addr) (zs : List Int) : Prop := ∀ i z, zs[i]? = some z → ∃ g, a = some ⟨g, 0, none⟩ ∧ w.cell? ⟨g, i, none⟩ = some (.int .i64 z)
theorem I64L.past {w w' : World} {a : Option Addr} {zs : List Int} (h : I64L w a zs) (hb : Below w.heap.size w w') : I64L w' a zs := fun i z hz => by
  obtain ⟨g, e, hc⟩ := h i z hz
  exact ⟨g, e, (hb.cell (p := ⟨g, i, none⟩) (cell_lt hc)).trans hc⟩
theorem own_i64 {w : World} {B N c : Nat} {a : Option Addr} {zs : List Int} (h : w.ownsRow B 2 1 (.slice a N c) N (zs.map (Value.int .i64))) (hl : zs.length = N) : I64L w a zs ∧ N ≤ c := by
  refine ⟨fun i z hz => ?_, ?_⟩
  · have hi : i < zs.length := (List.getElem?_eq_some_iff.1 hz).1
    obtain ⟨g, rfl, _⟩ := own_some h (by omega)
    have hL : Lies w (some ⟨g, 0, none⟩) (zs.map (Value.int .i64)) := own_lies h
    have := hL.at i (.int .i64 z) (by rw [List.getElem?_map, hz]; rfl)
    rw [Nat.zero_add] at this
    exact ⟨g, rfl, this⟩
  · by_cases h0 : 0 < N
    · obtain ⟨g, _, h2⟩ := own_some h h0
      exact h2
    · omega
set_option maxHeartbeats 2000000 in
theorem qsame64_any (a b : Option Addr) (N c d : Nat) (zs : List Int) (w : World) (hl : zs.length = N) (hc : N ≤ c) (hd : N ≤ d) (hN : N ≤ 1000000) (ha : I64L w a zs) (hb : I64L w b zs) :
    Calls Tryz.prog 35 #[.slice a N c, .slice b N d] w fun e w' => e = .returned (.bool true) ∧ Below w.heap.size w w' := by
  have HL : Hid (zs.length = N) := hl
  have HA : Hid (∀ u, Below w.heap.size w u → I64L u a zs) := fun u h => ha.past h
  have HB : Hid (∀ u, Below w.heap.size w u → I64L u b zs) := fun u h => hb.past h
  clear ha hb hl
  go_enter Tryz.func35, Tryz.ntmps35
  go_wp2
  go_loopw [5] (fun iv wr => ∃ i : Nat, iv = .int .i64 i ∧ i ≤ N ∧ Hid (Below w.heap.size w wr)) (fun iv _ => N - (intOf iv).toNat)
  case atStart => exact ⟨0, rfl, Nat.zero_le _, Below.refl _ _⟩
  case round =>
    obtain ⟨i, rfl, hi, HW⟩ := hrel
    have h0 : (0 : Int) ≤ (i : Int) := by omega
    by_cases hlt : i < N
    · have h1 : (i : Int) < (N : Int) := by omega
      obtain ⟨z, hz⟩ : ∃ z, zs[i]? = some z := ⟨_, List.getElem?_eq_getElem (by rw [HL.out]; exact hlt)⟩
      obtain ⟨g, rfl, _⟩ := HA.out wr HW.out i z hz
      obtain ⟨g2, rfl, _⟩ := HB.out wr HW.out i z hz
      have FA : Hid (∀ u, Below wr.heap.size wr u → u.cell? ⟨g, i, none⟩ = some (.int .i64 z) ∧ u.cell? ⟨g2, i, none⟩ = some (.int .i64 z)) := fun u hu => by
        have hb := HW.out.trans (hu.mono HW.out.size)
        obtain ⟨g', e1, h2⟩ := HA.out u hb i z hz
        obtain ⟨g2', e2, h3⟩ := HB.out u hb i z hz
        cases e1
        cases e2
        exact ⟨h2, h3⟩
      clear hz
      go_wp2
      refine wp_region_noPanic ?_
      refine wp_region_held_drew (S := fun u => Below wr.heap.size wr u) (by kernel_rfl) ?_ (fun hHeld => ?_)
      · exact (Below.refl _ _).drew
      refine wpAnyH_take (i := 0) (v := ?_) rfl (by kernel_rfl) (by kernel_rfl) (by kernel_rfl) (fun _ _ _ h => h) (Or.inl ⟨by rfl, ?_⟩) hHeld ?_
      rotate_left
      · intro u hSu
        (go_simp) <;> (with_reducible rfl)
      change wpAnyH _ _ _ _ _ _ _ (Act.put _ (some 17) _) _
      simp only [Act.put, List.setIfInBounds_toArray, List.set_cons_zero, List.set_cons_succ]
      refine wpAnyH_take (i := 1) (v := ?_) rfl (by kernel_rfl) (by kernel_rfl) (by kernel_rfl) (fun _ _ _ h => h) (Or.inl ⟨by rfl, ?_⟩) hHeld ?_
      rotate_left
      · intro u hSu
        (go_simp) <;> (with_reducible rfl)
      change wpAnyH _ _ _ _ _ _ _ (Act.put _ (some 18) _) _
      simp only [Act.put, List.setIfInBounds_toArray, List.set_cons_zero, List.set_cons_succ]
      refine wpAnyH_take (i := 2) (v := ?_) rfl (by kernel_rfl) (by kernel_rfl) (by kernel_rfl) (fun _ _ _ h => h) (Or.inl ⟨by rfl, ?_⟩) hHeld ?_
      rotate_left
      · intro u hSu
        (go_simp) <;> (with_reducible rfl)
      change wpAnyH _ _ _ _ _ _ _ (Act.put _ (some 19) _) _
      simp only [Act.put, List.setIfInBounds_toArray, List.set_cons_zero, List.set_cons_succ]
      refine wpAnyH_take (i := 3) (v := ?_) rfl (by kernel_rfl) (by kernel_rfl) (by kernel_rfl) (fun _ _ _ h => h) (Or.inl ⟨by rfl, ?_⟩) hHeld ?_
      rotate_left
      · intro u hSu
        obtain ⟨f1, f2⟩ := FA.out u hSu
        (go_simp) <;> (with_reducible rfl)
      change wpAnyH _ _ _ _ _ _ _ (Act.put _ (some 20) _) _
      simp only [Act.put, List.setIfInBounds_toArray, List.set_cons_zero, List.set_cons_succ]
      refine wpAnyH_take (i := 4) (v := ?_) rfl (by kernel_rfl) (by kernel_rfl) (by kernel_rfl) (fun _ _ _ h => h) (Or.inl ⟨by rfl, ?_⟩) hHeld ?_
      rotate_left
      · intro u hSu
        (go_simp) <;> (with_reducible rfl)
      change wpAnyH _ _ _ _ _ _ _ (Act.put _ (some 21) _) _
      simp only [Act.put, List.setIfInBounds_toArray, List.set_cons_zero, List.set_cons_succ]
      refine wpAnyH_take (i := 5) (v := ?_) rfl (by kernel_rfl) (by kernel_rfl) (by kernel_rfl) (fun _ _ _ h => h) (Or.inl ⟨by rfl, ?_⟩) hHeld ?_
      rotate_left
      · intro u hSu
        (go_simp) <;> (with_reducible rfl)
      change wpAnyH _ _ _ _ _ _ _ (Act.put _ (some 22) _) _
      simp only [Act.put, List.setIfInBounds_toArray, List.set_cons_zero, List.set_cons_succ]
      refine wpAnyH_take (i := 6) (v := ?_) rfl (by kernel_rfl) (by kernel_rfl) (by kernel_rfl) (fun _ _ _ h => h) (Or.inl ⟨by rfl, ?_⟩) hHeld ?_
      rotate_left
      · intro u hSu
        (go_simp) <;> (with_reducible rfl)
      change wpAnyH _ _ _ _ _ _ _ (Act.put _ (some 23) _) _
      simp only [Act.put, List.setIfInBounds_toArray, List.set_cons_zero, List.set_cons_succ]
      refine wpAnyH_take (i := 7) (v := ?_) rfl (by kernel_rfl) (by kernel_rfl) (by kernel_rfl) (fun _ _ _ h => h) (Or.inl ⟨by rfl, ?_⟩) hHeld ?_
      rotate_left
      · intro u hSu
        obtain ⟨f1, f2⟩ := FA.out u hSu
        (go_simp) <;> (with_reducible rfl)
      change wpAnyH _ _ _ _ _ _ _ (Act.put _ (some 24) _) _
      simp only [Act.put, List.setIfInBounds_toArray, List.set_cons_zero, List.set_cons_succ]
      refine wpAnyH_take (i := 8) (v := ?_) rfl (by kernel_rfl) (by kernel_rfl) (by kernel_rfl) (fun _ _ _ h => h) (Or.inl ⟨by rfl, ?_⟩) hHeld ?_
      rotate_left
      · intro u hSu
        (go_simp) <;> (with_reducible rfl)
      change wpAnyH _ _ _ _ _ _ _ (Act.put _ (some 25) _) _
      simp only [Act.put, List.setIfInBounds_toArray, List.set_cons_zero, List.set_cons_succ]
      refine wpAnyH_done (by kernel_rfl) ?_ _
      refine NoPanic.normal ?_
      go_wp2
      go_roundw
      case rel => exact ⟨i + 1, by go_num, by omega, HW.out.drew⟩
      case measure => simp [intOf]; omega
    · obtain rfl : i = N := by omega
      go_wp2
      go_ret
      exact ⟨rfl, HW.out⟩
/-- The boxes that came in: a key, two keys, a stamp. -/
structure KqB (w u : World) (k a b : List Int) (t n : Int) : Prop where
  below : Below w.heap.size w u
  k : KeyAt u w.heap.size 0 k
  a : KeyAt u (w.heap.size + 1) 0 a
  b : KeyAt u (w.heap.size + 2) 0 b
  c0 : u.cell? ⟨w.heap.size + 3, 0, none⟩ = some (.int .i64 t)
  c1 : u.cell? ⟨w.heap.size + 3, 1, none⟩ = some (.int .u8 n)
theorem KqB.made (w : World) {k a b : List Int} (hk : Ky k) (ha : Ky a) (hb : Ky b) (t n : Int) : KqB w ((((w.alloc (.cells (kcs k) 38)).alloc (.cells (kcs a) 38)).alloc (.cells (kcs b) 38)).alloc (.cells #[.int .i64 t, .int .u8 n] 28)) k a b t n := by
  have h1 := ScB.made (w.alloc (.cells (kcs k) 38)) ha hb t n 38 28
  have h2 : KeyAt (w.alloc (.cells (kcs k) 38)) w.heap.size 0 k := KeyAt.made w 38 k hk
  have e : (w.alloc (.cells (kcs k) 38)).heap.size = w.heap.size + 1 := by simp
  have h3 := h1.a
  have h4 := h1.b
  have h5 := h1.c0
  have h6 := h1.c1
  rw [e] at h3 h4 h5 h6
  exact ⟨((Below.refl _ _).alloc (Nat.le_refl _) _).trans (h1.below.mono (by rw [e]; omega)), h2.past h1.below, h3, h4, h5, h6⟩
theorem KqB.past {w u u' : World} {k a b : List Int} {t n : Int} (h : KqB w u k a b t n) (hb : Below u.heap.size u u') : KqB w u' k a b t n :=
  ⟨h.below.trans (hb.mono h.below.size), h.k.past hb, h.a.past hb, h.b.past hb, (hb.cell (p := ⟨w.heap.size + 3, 0, none⟩) (cell_lt h.c0)).trans h.c0, (hb.cell (p := ⟨w.heap.size + 3, 1, none⟩) (cell_lt h.c0)).trans h.c1⟩
theorem QMine.kept {u u' : World} {b : Nat} {y : QAct} (h : QMine u b y) (hk : u'.heap[b]? = u.heap[b]?) : QMine u' b y := ⟨h.at_.kept hk, fun i hi => by rw [frozen_kept hk]; exact h.free i hi⟩
theorem rsame_yesQ (p q : Nat) (L : List Ver) (w : World) (h : StoreL w p L) (h' : StoreL w q L) :
    Calls Tryz.prog 36 #[.pointer (some ⟨p, 0, none⟩), .pointer (some ⟨q, 0, none⟩)] w fun e w' => e = .returned (.bool true) ∧ Below w.heap.size w w' := (rsame10_any p q L L w h h').mono fun e w' ⟨h1, h2⟩ => ⟨by rw [h1]; simp, h2⟩
/-- A round: both parts, the act. -/
structure RndQ (W u : World) (p q s t xb : Nat) (P Q : PSt) (c : Nat) (y : QAct) : Prop where
  duo : DuoQ W u p q s t P Q c (fun k => k = xb)
  box : QMine u xb y
theorem RndQ.past {W u u' : World} {p q s t xb c : Nat} {P Q : PSt} {y : QAct} (h : RndQ W u p q s t xb P Q c y) (hb : Below u.heap.size u u') : RndQ W u' p q s t xb P Q c y := ⟨h.duo.past hb, h.box.past hb⟩
theorem DuoQ.up {W u : World} {p q s t c c' : Nat} {P Q : PSt} {F : Foot} (h : DuoQ W u p q s t P Q c F) (hc : c ≤ c') : DuoQ W u p q s t P Q c' F := by
  obtain ⟨s1, t1, m, M, XS, XT, M', h1, h2, h3, h4⟩ := h
  exact ⟨s1, t1, m, M, XS, XT, M', h1, Nat.le_trans h2 hc, Nat.le_trans h3 hc, h4⟩
theorem RndQ.up {W u : World} {p q s t xb c c' : Nat} {P Q : PSt} {y : QAct} (h : RndQ W u p q s t xb P Q c y) (hc : c ≤ c') : RndQ W u p q s t xb P Q c' y := ⟨h.duo.up hc, h.box⟩
theorem rq {W u : World} {p q s t xb c c' : Nat} {P Q P' Q' : PSt} {y : QAct} {f : Nat} {args : Array Value} {r : Int} (h : RndQ W u p q s t xb P Q c y) (hc : Calls Tryz.prog f args u fun e w' => e = .returned (.int .i64 r) ∧ DuoQ W w' p q s t P' Q' c' (fun k => k = xb) ∧ ∀ k, k = xb → w'.heap[k]? = u.heap[k]?) :
    Calls Tryz.prog f args u fun e w' => e = .returned (.int .i64 r) ∧ Hid (RndQ W w' p q s t xb P' Q' c' y) := hc.mono fun e w' ⟨h1, h2, h3⟩ => ⟨h1, h2, h.box.kept (h3 xb rfl)⟩
/-- The round begins. -/
theorem DuoQ.round {W u u2 : World} {p q s t c : Nat} {P Q : PSt} {F : Foot} {y : QAct} (h : DuoQ W u p q s t P Q c F) (hb : Below u.heap.size u u2) (hm : QMine u2 u.heap.size y) : RndQ W u2 p q s t u.heap.size P Q c y :=
  ⟨h.more hb (fun k e => .inr ⟨by rw [e]; exact Nat.le_refl _, by rw [e]; exact hm.at_.lt⟩), hm⟩
theorem scan_few {P : PSt} (K : PstK P) (a b : List Int) (t n now most : Int) : (scanP P a b t n now most).2.length ≤ 1000000 := by
  have h1 := K.few.1
  unfold scanP
  split
  · simp
  · split
    · simp
    · show ((scanV P.S a b t n).take most.toNat).length ≤ 1000000
      have h2 : (scanV P.S a b t n).length ≤ (keysV P.S).length := by
        unfold scanV
        exact List.length_filterMap_le _ _
      rw [List.length_take]
      omega
theorem DuoQ.kk {W u : World} {p q s t c : Nat} {P Q : PSt} {F : Foot} (h : DuoQ W u p q s t P Q c F) : PstK P := by obtain ⟨_, _, _, _, _, _, _, h1, _⟩ := h; exact h1.k
end Go.Proofs.YtileidbdmpeciaaGreat

namespace Go.Proofs.YtileidbdmpeciaaGreat
open Go.RowKit Go.ChangeShapes Go.WideShapes Go.ChangeAt
set_option linter.unusedVariables false
section
variable {H : Type} {enc : TypeId × Value → H} {w : World} {base : Nat} {held : Bool}
theorem struct2_open {P : Program} {t : TypeId} {f0 f1 : Field} {k0 k1 : IntKind} {sp : Nat → Bool} {v : Value} {r : Reach} {b0 : Nat} {d : DataW H} {ps : List MemPlace} (ht : P.underlying t = some (.struct #[f0, f1]))
    (u0 : P.underlying f0.type = some (.int k0)) (u1 : P.underlying f1.type = some (.int k1)) (o0 : f0.offset = 0) (o1 : f1.offset = 1)
    (c0 : P.cellsOf f0.type = 1) (c1 : P.cellsOf f1.type = 1) (ct : P.cellsOf t = 2)
    (hval : Value.okWide P w r b0 t v) (hd : DataW.Trod enc P w base sp held t v d ps) : ∃ a b : Int, v = .agg #[.int k0 a, .int k1 b] ∧ (Lit.int k0 a).wf = true ∧ (Lit.int k1 b).wf = true := by
  obtain ⟨cs, rfl, hsz⟩ := okWide_struct ht hval
  rw [ct] at hsz
  obtain ⟨fuel, hf⟩ := hd
  obtain ⟨y0, y1, n, _, _, h0, h1⟩ := trod_struct2 ht hf
  obtain ⟨a, ha, _, wa⟩ := DataW.trod_int u0 h0
  obtain ⟨b, hb, _, wb⟩ := DataW.trod_int u1 h1
  rw [o0, c0] at ha
  rw [o1, c1] at hb
  refine ⟨a, b, ?_, wa, wb⟩
  obtain ⟨l⟩ := cs
  simp only [Value.cells] at ha hb
  match l, hsz with
  | [x, y], _ =>
    simp at ha hb
    rw [ha, hb]
end
end Go.Proofs.YtileidbdmpeciaaGreat

