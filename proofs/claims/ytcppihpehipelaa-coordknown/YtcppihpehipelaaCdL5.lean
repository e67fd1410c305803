/-
  For CoordKnown: two landed Coords side by side; what the examples make of them.
-/
import Derived.Test.YtcppihpehipelaaAu40
namespace Go.Proofs.Ytcppihpehipelaa
open Go.RowKit
set_option linter.unusedVariables false
set_option linter.unusedSimpArgs false

/-- Two Coords of the call's own, beside blocks that stay. -/
structure TwoC (w u : World) (b : Nat) (C : List DecC) (o : Nat) (D : List DecC) (F : Foot) : Prop where
  out : ∃ X, CdF w u b C (fun k => X k ∨ F k) ∧ CoD u o D X ∧ ∀ k, X k → w.heap.size ≤ k
theorem CdF.two {w v u : World} {b o : Nat} {C D : List DecC} {F : Foot} (hc : CdF w v b C F) (ho : CdF v u o D noFoot) : TwoC w u b C o D F := by
  obtain ⟨X, h1, h2, h3⟩ := ho.out
  refine ⟨X, hc.more ho.below (fun k hk => ?_), h1, fun k hk => Nat.le_trans hc.below.size (h2 k hk)⟩
  rcases hk with e | e
  · exact ⟨.inr (h2 k e), h1.lt k e⟩
  · exact ⟨.inl e, Nat.lt_of_lt_of_le (hc.flt k e) ho.below.size⟩
theorem TwoC.past {w u u' : World} {b o : Nat} {C D : List DecC} {F : Foot} (h : TwoC w u b C o D F) (hb : Below u.heap.size u u') : TwoC w u' b C o D F := by
  obtain ⟨X, h1, h2, h3⟩ := h.out
  exact ⟨X, h1.past hb, h2.past hb, h3⟩
theorem TwoC.c {w u : World} {b o : Nat} {C D : List DecC} {F : Foot} (h : TwoC w u b C o D F) : CdF w u b C noFoot := by
  obtain ⟨X, h1, h2, h3⟩ := h.out
  exact h1.less (fun k hk => hk.elim)
theorem TwoC.o {w u : World} {b o : Nat} {C D : List DecC} {F : Foot} (h : TwoC w u b C o D F) : CdF w u o D noFoot := by
  obtain ⟨X, h1, h2, h3⟩ := h.out
  exact ⟨⟨X, h2, h3, fun k hk => hk.elim⟩, h1.below, fun k hk => hk.elim⟩
theorem TwoC.ack {w u : World} {b o : Nat} {C C' D : List DecC} {F : Foot} (h : TwoC w u b C o D F) {id p r : Int} (he : ackC C id p = (r, C')) (hi : I64 id) :
    Calls Try.prog 12 #[.pointer (some ⟨b, 0, none⟩), .int .i64 id, .int .i64 p] u fun e w' => e = .returned (.int .i64 r) ∧ TwoC w w' b C' o D F ∧ ∀ k, F k → w'.heap[k]? = u.heap[k]? := by
  obtain ⟨X, h1, h2, h3⟩ := h.out
  exact (h1.ack he hi).mono fun e w' ⟨e1, e2⟩ => ⟨e1, ⟨X, e2.at_, h2.kept e2.size (fun k hk => e2.stay k (.inl hk)), h3⟩, fun k hk => e2.stay k (.inr hk)⟩
def knC1 : List DecC := [⟨1, 4, 0, [0, 2], [false, false], 0, 0, 0, [false, false]⟩]
def knC2 : List DecC := [⟨1, 4, 0, [0, 2], [false, false], 2, 0, 0, [false, false]⟩]
def knC3 : List DecC := [⟨1, 4, 0, [0, 2], [false, false], 2, 0, 0, [true, false]⟩]
def knC4 : List DecC := [⟨1, 4, 0, [0, 2], [false, false], 2, 0, 0, [true, true]⟩]
def knO : List DecC := [⟨1, 0, 0, [0, 2], [false, false], 2, 0, 0, [false, false]⟩]
def knR : Rcd := ⟨4, 1, 0, 0, 0, 0, [], false, [0, 2]⟩
def knR7 : Rcd := ⟨3, 7, 0, 0, 0, 0, [], false, []⟩
theorem kn_a : beginC [] 0 0 0 [1] = (1, []) := by kernel_rfl
theorem kn_b : beginC [] 1 0 0 [1, 0] = (1, []) := by kernel_rfl
theorem kn_d : beginC [] 1 (-1) 0 [1] = (1, []) := by kernel_rfl
theorem kn_x : beginC [] 1 4 0 [0, 2] = (0, knC1) := by kernel_rfl
theorem kn_e : beginC knC1 1 4 0 [0] = (5, knC1) := by kernel_rfl
theorem kn_f : voteC knC1 1 0 true 4 0 = (1, knC1) := by kernel_rfl
theorem kn_g : voteC knC1 1 1 true 5 0 = (4, knC1) := by kernel_rfl
theorem kn_h : ackC knC1 1 0 = (8, knC1) := by kernel_rfl
theorem kn_v : voteC knC1 1 2 false (-9) 0 = (0, knC2) := by kernel_rfl
theorem kn_v2 : voteC knC2 1 0 true 9 0 = (0, knC2) := by kernel_rfl
theorem kn_dec : decC knC2 1 = (true, false, 0, 0) := by kernel_rfl
theorem kn_rec : recC knC2 1 = some knR := by kernel_rfl
theorem kn_rec2 : recC knC2 2 = none := by kernel_rfl
theorem kn_play : playC knC2 knR = (5, knC2) := by kernel_rfl
theorem kn_playo : playC [] knR = (0, knO) := by kernel_rfl
theorem kn_give : giveC knO 1 = ((false, 0), knO) := by kernel_rfl
theorem kn_vo : voteC knO 1 0 true 9 0 = (0, knO) := by kernel_rfl
theorem kn_k1 : ackC knC2 1 0 = (0, knC3) := by kernel_rfl
theorem kn_k2 : ackC knC3 1 2 = (0, knC4) := by kernel_rfl
theorem kn_open : openC knC4 = [] := by kernel_rfl
theorem kn_openo : openC knO = [1] := by kernel_rfl
theorem kn_form : playC knO knR7 = (3, knO) := by kernel_rfl
theorem knRcd_ok (kd id : Int) (l : List Wrt) (y : Bool) (ps : List Int) (hi : -9223372036854775808 ≤ id ∧ id ≤ 9223372036854775807) (hl : l = []) : RcdOk ⟨kd, id, 0, 0, 0, 0, l, y, ps⟩ := by
  subst hl
  exact ⟨hi.1, hi.2, by show (0 : Int) ≤ 0; omega, by show (0 : Int) ≤ 255; omega, by show (0 : Int) ≤ 0; omega, by show (0 : Int) ≤ 255; omega, fun W hW => by simp at hW, fun W hW => by simp at hW⟩
/-- A record that is written out: its parts lie at pa. -/
theorem knRcW (w : World) (kd id : Int) (pa : Option Addr) (pc : Nat) (ps : List Int) (hk : -1000 ≤ kd ∧ kd ≤ 1000) (hi : -1000 ≤ id ∧ id ≤ 1000) (hp : ps.length ≤ pc) (hp2 : ps.length ≤ 1000) (hat : IntsAt w pa ps) : RcW w ⟨⟨kd, id, 0, 0, 0, 0, [], false, ps⟩, none, 0, pa, pc⟩ :=
  ⟨WrtsAt.none _ _, Nat.zero_le _, Nat.zero_le _, hat, hp, hp2, ⟨by show _ ≤ kd; omega, by show kd ≤ _; omega⟩, knRcd_ok _ _ _ _ _ ⟨by omega, by omega⟩ rfl⟩
open Classical in
theorem kn_same : decide ((⟨4, 1, 0, 0, 0, 0, [], false, [0, 2]⟩ : Rcd) = knR) = true := decide_eq_true rfl
theorem ints_keptK {u u' : World} {a : Option Addr} {l : List Int} (h : IntsAt u a l) (hk : ∀ g o, a = some ⟨g, o, none⟩ → u'.heap[g]? = u.heap[g]?) : IntsAt u' a l := by
  obtain ⟨h1, h2⟩ := h
  refine ⟨?_, h2⟩
  rcases h1 with e | ⟨g, o, e, hc⟩
  · exact .inl e
  · exact .inr ⟨g, o, e, fun j hj => (cell_kept (hk g o e) _).trans (hc j hj)⟩
/-- What is held beside the Coords: the stamp told, the record told. -/
structure KnB (u : World) (S R G : Nat) (xa : Option Addr) (xc : Nat) (xpa : Option Addr) (xpc : Nat) : Prop where
  s : SBox u S 0 0
  r : RBox u R 4 1 0 0 0 0 xa 0 xc false xpa 2 xpc
  w : RcW u ⟨⟨4, 1, 0, 0, 0, 0, [], false, [0, 2]⟩, xa, xc, xpa, xpc⟩
  g : ∀ k o, xpa = some ⟨k, o, none⟩ → k = G
def knF (S R G : Nat) : Foot := fun k => k = S ∨ k = R ∨ k = G
theorem KnB.kept {u u' : World} {S R G : Nat} {xa : Option Addr} {xc : Nat} {xpa : Option Addr} {xpc : Nat} (h : KnB u S R G xa xc xpa xpc) (hk : ∀ k, knF S R G k → u'.heap[k]? = u.heap[k]?) : KnB u' S R G xa xc xpa xpc :=
  ⟨h.s.kept (hk S (.inl rfl)), h.r.kept (hk R (.inr (.inl rfl))), ⟨WrtsAt.none _ _, Nat.zero_le _, Nat.zero_le _, ints_keptK h.w.ps (fun g o e => by rw [h.g g o e]; exact hk G (.inr (.inr rfl))), h.w.proom, h.w.pfew, h.w.kd, h.w.ok⟩, h.g⟩
theorem KnB.past {u u' : World} {S R G : Nat} {xa : Option Addr} {xc : Nat} {xpa : Option Addr} {xpc : Nat} (h : KnB u S R G xa xc xpa xpc) (hb : Below u.heap.size u u') : KnB u' S R G xa xc xpa xpc :=
  ⟨h.s.past hb, h.r.past hb, h.w.past hb, h.g⟩
/-- The record lies where its parts lie. -/
theorem RcW.partAt {u : World} {xa : Option Addr} {xc : Nat} {xpa : Option Addr} {xpc : Nat} (h : RcW u ⟨⟨4, 1, 0, 0, 0, 0, [], false, [0, 2]⟩, xa, xc, xpa, xpc⟩) : ∃ G o, xpa = some ⟨G, o, none⟩ ∧ G < u.heap.size := by
  obtain ⟨g, o, x, e, hc, hx⟩ := h.ps.at (i := 0) (show 0 < 2 by decide)
  exact ⟨g, o, e, lt_of_cell hc⟩
/-- The record told, and its box. -/
theorem kn_held {wA w1 w1b w2 : World} {b : Nat} (K1 : CdF wA w1 b knC2 noFoot) {T1 : TypeId} (h1 : w1b = w1.alloc (.cells #[.int .i64 0, .int .u8 0] T1)) (T2 : TypeId) {xa : Option Addr} {xc : Nat} {xpa : Option Addr} {xpc : Nat} (hb : Below w1b.heap.size w1b w2) (hw : RcW w2 ⟨⟨4, 1, 0, 0, 0, 0, [], false, [0, 2]⟩, xa, xc, xpa, xpc⟩) (hf : ∀ g o, xpa = some ⟨g, o, none⟩ → w1b.heap.size ≤ g) :
    ∃ G, KnB (w2.alloc (.cells #[.int .i64 4, .int .i64 1, .int .i64 0, .int .u8 0, .int .i64 0, .int .u8 0, .slice xa 0 xc, .bool false, .slice xpa 2 xpc] T2)) w1.heap.size w2.heap.size G xa xc xpa xpc ∧ CdF wA (w2.alloc (.cells #[.int .i64 4, .int .i64 1, .int .i64 0, .int .u8 0, .int .i64 0, .int .u8 0, .slice xa 0 xc, .bool false, .slice xpa 2 xpc] T2)) b knC2 (knF w1.heap.size w2.heap.size G) := by
  obtain ⟨G, o, e, hG⟩ := hw.partAt
  have hg := hf G o e
  have hA := alloc_belowC w2 (.cells #[.int .i64 4, .int .i64 1, .int .i64 0, .int .u8 0, .int .i64 0, .int .u8 0, .slice xa 0 xc, .bool false, .slice xpa 2 xpc] T2)
  have s1 : w1b.heap.size = w1.heap.size + 1 := by rw [h1, World.size_alloc]
  have b1 : Below w1.heap.size w1 w1b := by rw [h1]; exact alloc_belowC _ _
  have sb : SBox w1b w1.heap.size 0 0 := by rw [h1]; exact SBox.made _ _ _ _
  have hs := hb.size
  have hz : (w2.alloc (.cells #[.int .i64 4, .int .i64 1, .int .i64 0, .int .u8 0, .int .i64 0, .int .u8 0, .slice xa 0 xc, .bool false, .slice xpa 2 xpc] T2)).heap.size = w2.heap.size + 1 := World.size_alloc _ _
  refine ⟨G, ⟨(sb.past hb).past hA, RBox.made _ _ _ _ _ _ _ _ _ _ _ _ _ _ _, hw.past hA, fun k o' e' => by rw [e] at e'; cases e'; rfl⟩, K1.more ((b1.trans (hb.mono b1.size)).trans (hA.mono (by omega))) (fun k hk => ?_)⟩
  rcases hk with e | e | e <;> exact ⟨.inr (by omega), by omega⟩
end Go.Proofs.Ytcppihpehipelaa
