/-
  An act of layer 16 in a variable of its own; acts whose writes are few.
  A key and a stamp that came in, in boxes; what was read and is read again.
  What is prepared stays so and can be committed, over a landed part.
-/
import Derived.Test.YtileidbdmpeciaaGreatAu71
import Derived.Test.YtileidbdmpeciaaGreatQActs
import Derived.Test.YtileidbdmpeciaaGreatAu60
import Derived.Deep.DeepCutAuto
import Derived.Deep.CutBlock
namespace Go.Proofs.YtileidbdmpeciaaGreat
open Go.RowKit
set_option linter.unusedVariables false

theorem info_qact : (Tryz.prog.info? 55).map (·.size) = some 18 := by kernel_rfl
abbrev qv (y : QAct) : Value := .agg (encQ y).toArray
def zeroR : RcM := ⟨⟨0, 0, 0, 0, 0, 0, [], false, []⟩, none, 0, none, 0⟩
def zeroQ : QAct := ⟨0, zeroE, 0, 0, zeroR⟩
theorem zeroQ_cells : (encQ zeroQ).toArray = #[.int .i64 0, .int .i64 0, .int .i64 0, .int .u8 0, .int .i64 0, .int .u8 0, .slice none 0 0, .int .i64 0, .int .u8 0, .int .i64 0, .int .i64 0, .int .i64 0, .int .u8 0, .int .i64 0, .int .u8 0, .slice none 0 0, .bool false, .slice none 0 0] := rfl
theorem encQ_one (y : QAct) : ∀ u ∈ encQ y, u.oneCell' = true := by
  intro u hu
  unfold encQ at hu
  rcases List.mem_cons.1 hu with e | e
  · rw [e]; rfl
  rcases List.mem_append.1 e with e | e
  · exact encE_one _ u e
  rcases List.mem_cons.1 e with e | e
  · rw [e]; rfl
  rcases List.mem_cons.1 e with e | e
  · rw [e]; rfl
  exact encR_one _ u e
theorem encQ_all (y : QAct) : (encQ y).toArray.all (·.oneCell') = true := all_oneCell_toArray (encQ_one y)
theorem qactEl : ElT 51 55 18 192 := ElT.mk' (z := qv zeroQ) Tryz.underlying51 (by kernel_rfl) (by kernel_rfl) (by decide) (by decide)
theorem encQs_one (l : List QAct) : ∀ u ∈ l.flatMap encQ, u.oneCell' = true := flat_one (fun x _ => encQ_one x)
theorem QActAt.op {w : World} {b o : Nat} {y : QAct} (h : QActAt w b o y) : w.cell? ⟨b, o, none⟩ = some (.int .i64 y.op) := h.lies.at 0 _ rfl
theorem QActAt.lt {w : World} {b o : Nat} {y : QAct} (h : QActAt w b o y) : b < w.heap.size := cell_lt h.op
theorem QActAt.ent {w : World} {b o : Nat} {y : QAct} (h : QActAt w b o y) : EntAt w b (o + 1) y.x := ⟨lies_of fun j v hj => by
  have hjl : j < 6 := by have := (List.getElem?_eq_some_iff.1 hj).1; rwa [encE_len] at this
  have h2 : (encQ y)[1 + j]? = some v := by
    unfold encQ
    rw [Nat.add_comm 1 j, List.getElem?_cons_succ, List.getElem?_append_left (by rw [encE_len]; exact hjl)]
    exact hj
  have := h.lies.at (1 + j) v h2
  rwa [← Nat.add_assoc] at this⟩
theorem QActAt.st {w : World} {b o : Nat} {y : QAct} (h : QActAt w b o y) : w.cell? ⟨b, o + 7, none⟩ = some (.int .i64 y.t) ∧ w.cell? ⟨b, o + 8, none⟩ = some (.int .u8 y.n) := ⟨h.lies.at 7 _ rfl, h.lies.at 8 _ rfl⟩
theorem QActAt.rcd {w : World} {b o : Nat} {y : QAct} (h : QActAt w b o y) : Lies w (some ⟨b, o + 9, none⟩) (encR y.r) := lies_of fun j v hj => by
  have h2 : (encQ y)[9 + j]? = some v := by
    unfold encQ
    rw [show 9 + j = (8 + j) + 1 by omega, List.getElem?_cons_succ, List.getElem?_append_right (by rw [encE_len]; omega), encE_len, show 8 + j - 6 = j + 1 + 1 by omega, List.getElem?_cons_succ, List.getElem?_cons_succ]
    exact hj
  have := h.lies.at (9 + j) v h2
  rwa [← Nat.add_assoc] at this
theorem QActAt.kept {u u' : World} {b o : Nat} {y : QAct} (h : QActAt u b o y) (hk : u'.heap[b]? = u.heap[b]?) : QActAt u' b o y := ⟨lies_of fun j v hj => by rw [cell_kept hk]; exact h.lies.at j v hj⟩
/-- An act in a box. -/
structure QMine (w : World) (b : Nat) (y : QAct) : Prop where
  at_ : QActAt w b 0 y
  free : ∀ i, i < 18 → w.frozen? ⟨b, 0 + i, none⟩ = false
theorem QMine.made (w : World) (T : TypeId) (y : QAct) : QMine (w.alloc (.cells (encQ y).toArray T)) w.heap.size y :=
  ⟨⟨lies_made w (encQ y).toArray T⟩, fun i hi => World.frozen?_alloc_new _ _ _ _⟩
theorem QMine.past {w w' : World} {b : Nat} {y : QAct} (h : QMine w b y) (hb : Below w.heap.size w w') : QMine w' b y :=
  ⟨h.at_.past hb, fun i hi => by rw [hb.frozen (p := ⟨b, 0 + i, none⟩) h.at_.lt]; exact h.free i hi⟩
theorem QMine.there {w : World} {b : Nat} {y : QAct} (h : QMine w b y) : w.there b 0 18 := fun j hj => by
  obtain ⟨u, hu⟩ : ∃ u, (encQ y)[j]? = some u := ⟨_, List.getElem?_eq_getElem (by rw [encQ_len]; exact hj)⟩
  exact ⟨by rw [h.at_.lies.at j u hu]; rfl, h.free j hj⟩
theorem QMine.store {w : World} {b : Nat} {y y' : QAct} (h : QMine w b y) : QMine (w.setCells b 0 (encQ y')) b y' := by
  have ht := h.there
  rw [← encQ_len y'] at ht
  exact ⟨⟨lies_of (World.rangeAt_setCells_same w b 0 (encQ y') ht)⟩, fun i hi => by rw [World.frozen?_setCells]; exact h.free i hi⟩
theorem wpList_load_qact (d : Tmp) {ops : Array Oper} {rest : List Oper} {op : Oper} {a : Act} {w : World} {Q : Exit → Act → World → Prop} (hd : op.dst = some d) (hw : Region.wanted op (yielded ops a.tmps) = true) (x : Operand) (ho : op.op = .load 55 x)
    (b o : Nat) (hx : a.eval x = .pointer (some ⟨b, o, none⟩)) (y : QAct) (hat : QActAt w b o y)
    (h : wpList Tryz.prog ops Q rest (a.put op.dst (qv y)) w) : wpList Tryz.prog ops Q (op :: rest) a w :=
  wpList_step fun K hK => by
    rw [if_pos hw]
    exact wp_load_mid 55 x ho b o hx (encQ y) _ hat.lies.range Tryz.underlying55 rfl (by rw [info_qact, encQ_len]) (hK _ _ h)
theorem wpList_store_qact (d : Operand) {ops : Array Oper} {rest : List Oper} {op : Oper} {a : Act} {w : World} {Q : Exit → Act → World → Prop} (hgd : op.guard = none) (y : Operand) (ho : op.op = .store 55 d y)
    (b : Nat) (X X' : QAct) (hx : a.eval d = .pointer (some ⟨b, 0, none⟩)) (hy : a.eval y = qv X') (hat : QMine w b X)
    (h : ∀ u, u = w.setCells b 0 (encQ X') → wpList Tryz.prog ops Q rest (a.put op.dst undef) u) : wpList Tryz.prog ops Q (op :: rest) a w := by
  refine wpList_store_mid hgd 55 d y ho b 0 (encQ X').toArray hx hy (by rw [show (encQ X').toArray.size = 18 from rfl]; exact hat.there) (by rw [info_qact]; rfl) (encQ_all X') ?_
  exact h _ rfl
theorem EntIn.w {w u : World} {x : EntM} (h : EntIn w x) (hb : Below w.heap.size w u) (hl : longQ x.e.l = false) : EntW u x := by
  refine ⟨h.wr.at_.past hb, h.wr.room, ?_, h.ok⟩
  unfold longQ at hl
  have := (Bool.or_eq_false_iff.1 hl).1
  have := of_decide_eq_false this
  omega
theorem RcIn.w {w u : World} {x : RcM} (h : RcIn w x) (hb : Below w.heap.size w u) (hl : longQ x.r.l = false) (hp : x.r.ps.length ≤ 12) : RcW u x := by
  unfold longQ at hl
  have h1 := (Bool.or_eq_false_iff.1 hl).1
  have h2 := of_decide_eq_false h1
  exact (h.rc (by omega) (by omega)).past hb
theorem PaX.up {w u : World} {p c c' : Nat} {P : PSt} (h : PaX w u p P c) (hc : c ≤ c') : PaX w u p P c' := by
  obtain ⟨s, t, m, M, XS, XT, h1, h2, h3, h4, h5⟩ := h
  exact ⟨s, t, m, M, XS, XT, h1, h2, Nat.le_trans h3 hc, h4, h5⟩
/-- What lies ahead of w stays where it is beside a part that has come since. -/
theorem xanewp {w u : World} (hb : Below w.heap.size w u) : Calls Tryz.prog 9 #[] u fun e w' => ∃ p, e = .returned (.pointer (some ⟨p, 0, none⟩)) ∧ PaX w w' p ⟨[], [], []⟩ 0 := by
  refine (xanew u).mono ?_
  rintro e w' ⟨p, rfl, s, t, m, M, XS, XT, h1, h2, h3, h4, h5⟩
  exact ⟨p, rfl, s, t, m, M, XS, XT, h1, h2, h3, hb.trans (h4.mono hb.size), fun k hk => Nat.le_trans hb.size (h5 k hk)⟩
/-! ### A part beside blocks that stay -/
/-- A part that has come since w; the blocks of F are no part of it. -/
def PaXF (w u : World) (p : Nat) (P : PSt) (c : Nat) (F : Foot) : Prop := ∃ s t m M XS XT, ParI u p s t m P M XS XT ∧ PstK P ∧ P.O.length ≤ c ∧ Below w.heap.size w u ∧ (∀ k, ParX p m XS XT k → w.heap.size ≤ k) ∧ ∀ k, F k → k < u.heap.size ∧ ¬ ParX p m XS XT k
theorem PaX.f {w u : World} {p c : Nat} {P : PSt} (h : PaX w u p P c) : PaXF w u p P c noFoot := by
  obtain ⟨s, t, m, M, XS, XT, h1, h2, h3, h4, h5⟩ := h
  exact ⟨s, t, m, M, XS, XT, h1, h2, h3, h4, h5, fun k hk => hk.elim⟩
theorem PaXF.x {w u : World} {p c : Nat} {P : PSt} {F : Foot} (h : PaXF w u p P c F) : PaX w u p P c := by
  obtain ⟨s, t, m, M, XS, XT, h1, h2, h3, h4, h5, h6⟩ := h
  exact ⟨s, t, m, M, XS, XT, h1, h2, h3, h4, h5⟩
theorem PaXF.more {w u u' : World} {p c : Nat} {P : PSt} {F G : Foot} (h : PaXF w u p P c F) (hb : Below u.heap.size u u') (hG : ∀ k, G k → F k ∨ u.heap.size ≤ k ∧ k < u'.heap.size) : PaXF w u' p P c G := by
  obtain ⟨s, t, m, M, XS, XT, h1, h2, h3, h4, h5, h6⟩ := h
  refine ⟨s, t, m, M, XS, XT, h1.past hb, h2, h3, h4.trans (hb.mono h4.size), h5, fun k hk => ?_⟩
  rcases hG k hk with e | e
  · exact ⟨Nat.lt_of_lt_of_le (h6 k e).1 hb.size, (h6 k e).2⟩
  · exact ⟨e.2, fun hx => by have := h1.lt k hx; omega⟩
theorem PaXF.past {w u u' : World} {p c : Nat} {P : PSt} {F : Foot} (h : PaXF w u p P c F) (hb : Below u.heap.size u u') : PaXF w u' p P c F := h.more hb (fun k hk => .inl hk)
theorem PaXF.turn {w u u' : World} {p s t m c' : Nat} {P P' : PSt} {M : List EntM} {XS XT : Foot} {F : Foot} (h4 : Below w.heap.size w u) (h1 : ParI u p s t m P M XS XT) (h5 : ∀ k, ParX p m XS XT k → w.heap.size ≤ k) (h6 : ∀ k, F k → k < u.heap.size ∧ ¬ ParX p m XS XT k) (hl : ParL u u' p s t m M XS XT P') (hk : PstK P') (hc : P'.O.length ≤ c') : PaXF w u' p P' c' F ∧ ∀ k, F k → u'.heap[k]? = u.heap[k]? := by
  obtain ⟨M', XS', XT', x1, x2, _⟩ := hl
  refine ⟨⟨s, t, m, M', XS', XT', x1, hk, hc, h4.trans (x2.chg.below h4.size h5), fun k hk => (x2.new k hk).1.elim (h5 k) (fun e => Nat.le_trans h4.size e), fun k hk => ⟨Nat.lt_of_lt_of_le (h6 k hk).1 x2.chg.size, fun hx => ?_⟩⟩, fun k hk => x2.chg.block k (h6 k hk).1 (h6 k hk).2⟩
  rcases (x2.new k hx).1 with e | e
  · exact (h6 k hk).2 e
  · have := (h6 k hk).1; omega
theorem xfcommit {w u : World} {p c : Nat} {P : PSt} {F : Foot} (h : PaXF w u p P c F) (id t n : Int) (hid : I64 id) (hn : 0 ≤ n ∧ n ≤ 255) (hc : c ≤ 1000000) :
    Calls Tryz.prog 12 #[.pointer (some ⟨p, 0, none⟩), .int .i64 id, .agg #[.int .i64 t, .int .u8 n]] u fun e w' => e = .returned (.int .i64 (commitP P id t n).1) ∧ PaXF w w' p (commitP P id t n).2 (c + 1) F ∧ ∀ k, F k → w'.heap[k]? = u.heap[k]? := by
  obtain ⟨s, tb, m, M, XS, XT, h1, h2, h3, h4, h5, h6⟩ := h
  refine (pcommit_any id t n hid hn u h1 h2 (by omega)).mono ?_
  rintro e w' ⟨rfl, hl⟩
  exact ⟨rfl, PaXF.turn h4 h1 h5 h6 hl (h2.commit _ _ _ hn) (by have := olen_commit P id t n; omega)⟩
end Go.Proofs.YtileidbdmpeciaaGreat

namespace Go.Proofs.YtileidbdmpeciaaGreat
open Go.RowKit
set_option linter.unusedVariables false

/-- The key and the stamp that came in, in their boxes. -/
structure KsB (w u : World) (k : List Int) (t n : Int) : Prop where
  key : KeyAt u w.heap.size 0 k
  c0 : u.cell? ⟨w.heap.size + 1, 0, none⟩ = some (.int .i64 t)
  c1 : u.cell? ⟨w.heap.size + 1, 1, none⟩ = some (.int .u8 n)
theorem KsB.past {w u u' : World} {k : List Int} {t n : Int} (h : KsB w u k t n) (hb : Below u.heap.size u u') : KsB w u' k t n :=
  ⟨h.key.past hb, (hb.cell (p := ⟨w.heap.size + 1, 0, none⟩) (cell_lt h.c0)).trans h.c0, (hb.cell (p := ⟨w.heap.size + 1, 1, none⟩) (cell_lt h.c0)).trans h.c1⟩
theorem KsB.two {w u : World} {k : List Int} {t n : Int} (h : KsB w u k t n) : u.cell? ⟨w.heap.size + 1, 0, none⟩ = some (.int .i64 t) ∧ u.cell? ⟨w.heap.size + 1, 1, none⟩ = some (.int .u8 n) := ⟨h.c0, h.c1⟩
theorem KsB.made (w : World) {k : List Int} (hk : Ky k) (t n : Int) (T T' : TypeId) : KsB w ((w.alloc (.cells (kcs k) T)).alloc (.cells #[.int .i64 t, .int .u8 n] T')) k t n := by
  have e : ∀ o, ((w.alloc (.cells (kcs k) T)).alloc (.cells #[.int .i64 t, .int .u8 n] T')).cell? ⟨w.heap.size + 1, o, none⟩ = (#[.int .i64 t, .int .u8 n] : Array Value)[o]? := fun o => by
    have := World.cell?_alloc_new (w.alloc (.cells (kcs k) T)) #[.int .i64 t, .int .u8 n] T' o
    rw [World.size_alloc] at this
    exact this
  exact ⟨(KeyAt.made w T k hk).past ((Below.refl _ _).alloc (Nat.le_refl _) _), e 0, e 1⟩
/-- A part of which k at t.n is read as G. -/
def StQ (W u : World) (p c : Nat) (k : List Int) (t n : Int) (G : Option (List Int)) : Prop := ∃ P, PaX W u p P c ∧ freeP P.T k t n ∧ getV P.S k t n = G
theorem StQ.below {W u : World} {p c : Nat} {k : List Int} {t n : Int} {G : Option (List Int)} (h : StQ W u p c k t n G) : Below W.heap.size W u := by obtain ⟨P, h1, _⟩ := h; exact h1.below
theorem StQ.past {W u u' : World} {p c : Nat} {k : List Int} {t n : Int} {G : Option (List Int)} (h : StQ W u p c k t n G) (hb : Below u.heap.size u u') : StQ W u' p c k t n G := by
  obtain ⟨P, h1, h2, h3⟩ := h
  exact ⟨P, h1.past hb, h2, h3⟩
theorem StQ.up {W u : World} {p c c' : Nat} {k : List Int} {t n : Int} {G : Option (List Int)} (h : StQ W u p c k t n G) (hc : c ≤ c') : StQ W u p c' k t n G := by
  obtain ⟨P, h1, h2, h3⟩ := h
  exact ⟨P, h1.up hc, h2, h3⟩
end Go.Proofs.YtileidbdmpeciaaGreat

namespace Go.Proofs.YtileidbdmpeciaaGreat
open Go.RowKit
set_option linter.unusedVariables false

theorem own_mt (e : TypeId) (size : Nat) (w : World) : OwnB e size w (w.alloc (.cells #[] e)) (.slice (some ⟨w.heap.size, 0, none⟩) 0 0) 0 [] :=
  ⟨World.ownsRow_made w #[] 0 (Nat.le_refl _) (by unfold maxLen; omega) (by simp), (Below.refl _ _).alloc (Nat.le_refl _) _⟩
theorem own_some {w : World} {B e size n c : Nat} {a : Option Addr} {vs : List Value} (h : w.ownsRow B e size (.slice a n c) n vs) (hn : 0 < n) : ∃ g, a = some ⟨g, 0, none⟩ ∧ n ≤ c := by
  rcases h.2 with ⟨e1, e2⟩ | ⟨g, cap, cur, e1, _, _, e5, _⟩
  · omega
  · cases e1; exact ⟨g, rfl, e5⟩
theorem QActsOf.lies {w : World} {a : Option Addr} {cap : Nat} {ys : List QAct} (h : QActsOf w a cap ys) : Lies w a (ys.flatMap encQ) := by
  rcases h.cells with rfl | ⟨b, off, rfl, hc⟩
  · intro sa hsa
    exact ⟨fun e => absurd rfl e, fun j u hj => by simp at hj⟩
  · refine lies_of fun j v hj => ?_
    have hjl : j < ys.length * 18 := by
      have := (List.getElem?_eq_some_iff.1 hj).1
      rwa [flat_len (size := 18) ys (fun x _ => encQ_len x)] at this
    obtain ⟨hi, e⟩ := flat_get (k := 18) (by omega) (l := ys) (enc := encQ) (fun x _ => encQ_len x) j hjl
    rw [e] at hj
    have := (hc (j / 18) _ (List.getElem?_eq_getElem hi)).lies.at (j % 18) v hj
    rwa [show off + j / 18 * 18 + j % 18 = off + j by omega] at this
theorem QActsOf.ok {w : World} {a : Option Addr} {cap : Nat} {ys : List QAct} (h : QActsOf w a cap ys) : ∀ y ∈ ys, QActOk w y := h.oks
/-- The act at a place of a list of the call's own. -/
theorem own_qact {w : World} {B n c g : Nat} {l : List QAct} (h : w.ownsRow B 55 18 (.slice (some ⟨g, 0, none⟩) n c) n (l.flatMap encQ)) {i : Nat} {y : QAct} (hy : l[i]? = some y) : QActAt w g (i * 18) y := by
  have hl : Lies w (some ⟨g, 0, none⟩) (l.flatMap encQ) := own_lies h
  have he := hl.el (size := 18) (fun y _ => encQ_len y) hy
  rw [Nat.zero_add] at he
  exact ⟨he⟩
/-- A part; where b, E is prepared in it. -/
def HoQ (W u : World) (p c : Nat) (E : Ent) (b : Bool) : Prop := ∃ P, PaX W u p P c ∧ (b = true → E ∈ P.T)
theorem HoQ.below {W u : World} {p c : Nat} {E : Ent} {b : Bool} (h : HoQ W u p c E b) : Below W.heap.size W u := by obtain ⟨P, h1, _⟩ := h; exact h1.below
theorem HoQ.past {W u u' : World} {p c : Nat} {E : Ent} {b : Bool} (h : HoQ W u p c E b) (hb : Below u.heap.size u u') : HoQ W u' p c E b := by
  obtain ⟨P, h1, h2⟩ := h
  exact ⟨P, h1.past hb, h2⟩
theorem HoQ.up {W u : World} {p c c' : Nat} {E : Ent} {b : Bool} (h : HoQ W u p c E b) (hc : c ≤ c') : HoQ W u p c' E b := by
  obtain ⟨P, h1, h2⟩ := h
  exact ⟨P, h1.up hc, h2⟩
theorem hoq_prep {W u : World} {p c : Nat} {E : Ent} {b : Bool} (h : HoQ W u p c E b) (Y : EntM) (he : EntW u Y) :
    Calls Tryz.prog 10 #[.pointer (some ⟨p, 0, none⟩), ev Y] u fun e w' => (∃ z : Int, e = .returned (.int .i64 z)) ∧ HoQ W w' p c E b := by
  obtain ⟨P, h1, h2⟩ := h
  refine (xaprep h1 Y he).mono ?_
  rintro e w' ⟨rfl, h4⟩
  exact ⟨⟨_, rfl⟩, _, h4, fun e => stay_prep (h2 e)⟩
theorem hoq_commit {W u : World} {p c : Nat} {E : Ent} {b : Bool} (h : HoQ W u p c E b) (id a m : Int) (hid : I64 id) (hm : 0 ≤ m ∧ m ≤ 255) (hc : c ≤ 1000000) (hne : b = true → id ≠ E.id) :
    Calls Tryz.prog 12 #[.pointer (some ⟨p, 0, none⟩), .int .i64 id, .agg #[.int .i64 a, .int .u8 m]] u fun e w' => (∃ z : Int, e = .returned (.int .i64 z)) ∧ HoQ W w' p (c + 1) E b := by
  obtain ⟨P, h1, h2⟩ := h
  refine (xacommit h1 id a m hid hm hc).mono ?_
  rintro e w' ⟨rfl, h4⟩
  exact ⟨⟨_, rfl⟩, _, h4, fun e => stay_commit (h2 e) (hne e)⟩
theorem hoq_abort {W u : World} {p c : Nat} {E : Ent} {b : Bool} (h : HoQ W u p c E b) (id : Int) (hid : I64 id) (hc : c ≤ 1000000) (hne : b = true → id ≠ E.id) :
    Calls Tryz.prog 17 #[.pointer (some ⟨p, 0, none⟩), .int .i64 id] u fun e w' => (∃ z : Int, e = .returned (.int .i64 z)) ∧ HoQ W w' p (c + 1) E b := by
  obtain ⟨P, h1, h2⟩ := h
  refine (xaabort h1 id hid hc).mono ?_
  rintro e w' ⟨rfl, h4⟩
  exact ⟨⟨_, rfl⟩, _, h4, fun e => stay_abort (h2 e) (hne e)⟩
/-- What Prepare(e) answers is known ahead; where it is OK, e is prepared. -/
theorem hoq_first {W u : World} {p c : Nat} {E : Ent} {b : Bool} (h : HoQ W u p c E b) (Y : EntM) (hY : Y.e = E) (he : EntW u Y) : ∃ z : Int, Hid (∀ u', Below u.heap.size u u' → Calls Tryz.prog 10 #[.pointer (some ⟨p, 0, none⟩), ev Y] u' fun e w' => e = .returned (.int .i64 z) ∧ Hid (HoQ W w' p c E (decide (z = 0)))) := by
  obtain ⟨P, h1, h2⟩ := h
  refine ⟨(prepP P Y.e).1, fun u' hb => (xaprep (h1.past hb) Y (he.past hb)).mono ?_⟩
  rintro e w' ⟨rfl, h4⟩
  exact ⟨rfl, _, h4, fun e => by rw [← hY]; exact prep_in (of_decide_eq_true e)⟩
/-- The part beside blocks that stay. -/
def HoF (W u : World) (p c : Nat) (E : Ent) (F : Foot) : Prop := ∃ P, PaXF W u p P c F ∧ E ∈ P.T
theorem HoQ.f {W u : World} {p c : Nat} {E : Ent} (h : HoQ W u p c E true) (o : Obj) : HoF W (u.alloc o) p c E (fun k => k = u.heap.size) := by
  obtain ⟨P, h1, h2⟩ := h
  exact ⟨P, h1.f.more ((Below.refl _ _).alloc (Nat.le_refl _) _) (fun k e => .inr ⟨by rw [e]; exact Nat.le_refl _, by rw [e]; simp⟩), h2 rfl⟩
theorem HoF.past {W u u' : World} {p c : Nat} {E : Ent} {F : Foot} (h : HoF W u p c E F) (hb : Below u.heap.size u u') : HoF W u' p c E F := by
  obtain ⟨P, h1, h2⟩ := h
  exact ⟨P, h1.past hb, h2⟩
theorem HoF.below {W u : World} {p c : Nat} {E : Ent} {F : Foot} (h : HoF W u p c E F) : Below W.heap.size W u := by obtain ⟨P, h1, _⟩ := h; exact h1.x.below
theorem HoQ.okS {W u : World} {p c : Nat} {E : Ent} (h : HoQ W u p c E true) : okS E.t := by
  obtain ⟨P, h1, h2⟩ := h
  have hg := h1.k.tab.good E (h2 rfl)
  unfold goodE at hg
  simp only [Bool.and_eq_true, decide_eq_true_eq] at hg
  exact hg.1.1.2
theorem hof_state {W u : World} {p c : Nat} {E : Ent} {F : Foot} (h : HoF W u p c E F) (hid : I64 E.id) :
    Calls Tryz.prog 19 #[.pointer (some ⟨p, 0, none⟩), .int .i64 E.id] u fun e w' => e = .returned (.int .i64 1) ∧ Below u.heap.size u w' := by
  obtain ⟨P, h1, h2⟩ := h
  have h9 := xastate h1.x E.id hid
  rw [h1.x.k.one h2] at h9
  exact h9
/-- A part in which E is committed, and read at t.n. -/
def HdQ (W u : World) (p c : Nat) (E : Ent) (t n : Int) : Prop := ∃ P, PaX W u p P c ∧ (∀ V ∈ E.l, readP P V.k t n t = (0, if V.g = true then none else some V.v) ∧ (V.g = true → V.v = [])) ∧ stateP P E.id = 2
theorem HdQ.below {W u : World} {p c : Nat} {E : Ent} {t n : Int} (h : HdQ W u p c E t n) : Below W.heap.size W u := by obtain ⟨P, h1, _⟩ := h; exact h1.below
theorem HdQ.past {W u u' : World} {p c : Nat} {E : Ent} {t n : Int} (h : HdQ W u p c E t n) (hb : Below u.heap.size u u') : HdQ W u' p c E t n := by
  obtain ⟨P, h1, h2⟩ := h
  exact ⟨P, h1.past hb, h2⟩
theorem hof_commit {W u : World} {p c : Nat} {E : Ent} {F : Foot} (h : HoF W u p c E F) (t n : Int) (hid : I64 E.id) (hn : 0 ≤ n ∧ n ≤ 255) (hc : c ≤ 1000000) (ht : okS t) (hge : ¬ cmpS t n E.t E.n < 0) :
    Calls Tryz.prog 12 #[.pointer (some ⟨p, 0, none⟩), .int .i64 E.id, .agg #[.int .i64 t, .int .u8 n]] u fun e w' => e = .returned (.int .i64 0) ∧ HdQ W w' p (c + 1) E t n ∧ ∀ k, F k → w'.heap[k]? = u.heap[k]? := by
  obtain ⟨P, h1, h2⟩ := h
  have hk := h1.x.k
  refine (xfcommit h1 E.id t n hid hn hc).mono ?_
  rintro e w' ⟨rfl, h4, h5⟩
  refine ⟨by rw [hk.commits h2 ht hge], ⟨_, h4.x, fun V hV => ?_, ?_⟩, h5⟩
  · obtain ⟨g1, g2, _⟩ := hk.reads h2 ht hge hV
    exact ⟨g1, g2⟩
  · rw [hk.commits h2 ht hge]
    unfold stateP
    rw [over_app, hk.opn E h2]
    simp
theorem hdq_read {W u : World} {p c : Nat} {E : Ent} {t n : Int} (h : HdQ W u p c E t n) (V : Wrt) (hV : V ∈ E.l) (hk : Ky V.k) :
    Calls Tryz.prog 14 #[.pointer (some ⟨p, 0, none⟩), kv V.k, .agg #[.int .i64 t, .int .u8 n], .int .i64 t] u fun e w' => e = .returned (.tuple #[.string (strOfNums V.v), .bool (!V.g), .int .i64 0]) ∧ Below u.heap.size u w' := by
  obtain ⟨P, h1, h2, _⟩ := h
  obtain ⟨g1, g2⟩ := h2 V hV
  have h9 := xaread h1 V.k hk t n t
  rw [g1] at h9
  cases hg : V.g with
  | true =>
    rw [hg, if_pos rfl] at h9
    rw [g2 hg]
    exact h9
  | false =>
    rw [hg, if_neg (by decide)] at h9
    exact h9
theorem hdq_state {W u : World} {p c : Nat} {E : Ent} {t n : Int} (h : HdQ W u p c E t n) (hid : I64 E.id) :
    Calls Tryz.prog 19 #[.pointer (some ⟨p, 0, none⟩), .int .i64 E.id] u fun e w' => e = .returned (.int .i64 2) ∧ Below u.heap.size u w' := by
  obtain ⟨P, h1, _, h2⟩ := h
  have h9 := xastate h1 E.id hid
  rw [h2] at h9
  exact h9
end Go.Proofs.YtileidbdmpeciaaGreat

