/-
  What the document's own stores answer: Chain (hourglassref10: Store.Chain).
  A variable for a key that was just made, and a key laid into it.
  The regions of the document's own Sort (hourglassref10) that draw their order, each by itself.
  Sort's insertion (hourglassref10), a region that draws its order, by itself: into a list that is nil, and into one that is not.
  What the document's own lists of keys in order (hourglassref10: Sort) answer.
-/
import Derived.Test.YtileidbdmpeciaaGreatRefStore
import Derived.Test.YtileidbdmpeciaaGreatAu116
import Derived.Deep.MidRow
import Derived.Test.YtileidbdmpeciaaGreatAu84
import Derived.Test.YtileidbdmpeciaaGreatAu106
import Derived.Test.YtileidbdmpeciaaGreatAu79
import Derived.Test.YtileidbdmpeciaaGreatAu96
import Derived.BigRegion
import Derived.Deep.Onto
import Derived.Deep.RegionHeld3
namespace Go.Proofs.YtileidbdmpeciaaGreat
open Go.RowKit
set_option linter.unusedVariables false
set_option linter.unusedSimpArgs false

theorem own_rawC (e : TypeId) (size : Nat) (w : World) : OwnB e size w (w.alloc (.cells #[] e)) (.slice (some ⟨w.heap.size, 0, none⟩) 0 0) 0 [] :=
  ⟨World.ownsRow_made w #[] 0 (Nat.le_refl _) (by unfold maxLen; omega) (by simp), (Below.refl _ _).alloc (Nat.le_refl _) _⟩
/-- The list's cell, and where its versions lie. -/
theorem StoreR.srcC {u : World} {B p : Nat} {L : List Ver} (h : StoreR u B p L) : ∃ a c, L.length ≤ c ∧ (a = none → L.length = 0 ∧ c = 0) ∧ (∀ ad, a = some ad → ∃ bb, ad = ⟨bb, 0, none⟩) ∧ (∀ v, Below u.heap.size u v → v.cell? ⟨p, 0, none⟩ = some (.slice a L.length c)) ∧ ∀ v, Below u.heap.size u v → Lies v a (L.flatMap encV) := by
  obtain ⟨a, c, h1, h2, h3⟩ := h.list
  rcases h2.2 with ⟨e1, e2⟩ | ⟨g, cap, cur, e1, hg, hh, e5, _⟩
  · have e3 := List.eq_nil_of_length_eq_zero e2
    injection e1 with x1 x2 x3
    refine ⟨a, c, by omega, fun _ => ⟨e2, x3⟩, (fun ad e => by rw [x1] at e; cases e), fun v hb => (hb.cell (p := ⟨p, 0, none⟩) h.lt).trans h1, fun v hb => ?_⟩
    rw [e3]; exact lies_nil _ _
  · injection e1 with x1 x2 x3
    subst x1
    subst x3
    refine ⟨_, c, e5, (fun e => by cases e), fun ad e => ⟨g, by injection e with e; exact e.symm⟩, fun v hb => (hb.cell (p := ⟨p, 0, none⟩) h.lt).trans h1, fun v hb => (own_lies h2).past hb⟩
theorem slice_versM (w : World) (a : Option Addr) (ha : ∀ ad, a = some ad → ∃ bb, ad = ⟨bb, 0, none⟩) (len cap i j : Nat) (hij : i ≤ j) (hj : j ≤ cap) (hn : a = none → cap = 0) :
    (Instr.slice 109 (.slice a len cap) (some (.int .i64 (i : Int))) (some (.int .i64 (j : Int))) none).run Tryz.prog w = .ok (.slice (dropV a cap i) (j - i) (cap - i)) w := by
  cases a with
  | none =>
    obtain rfl := hn rfl
    obtain rfl : j = 0 := by omega
    obtain rfl : i = 0 := by omega
    kernel_rfl
  | some ad =>
    obtain ⟨bb, rfl⟩ := ha ad rfl
    obtain ⟨i0, z, hi, _, hsz, _⟩ := verEl.info
    have he : Tryz.prog.elem 109 = 127 := by kernel_rfl
    rw [run_slice_lh w 109 _ len cap (by rw [he]; exact Tryz.underlying109) .i64 .i64 (i : Int) (j : Int) (by omega) (by omega) (by omega), he, run_sizeOf w hi]
    have hc : Tryz.prog.cellsOf 127 = 20 := by kernel_rfl
    simp [sliced, addr_add, hc, dropV]
/-- Versions that were answered: a list that is new. -/
structure ChnA (w u : World) (a : Option Addr) (N c : Nat) (l : List Ver) : Prop where
  own : OwnB 127 20 w u (.slice a N c) N (l.flatMap encV)
  len : l.length = N
  oks : OkL l
theorem ChnA.past {w u u' : World} {a : Option Addr} {N c : Nat} {l : List Ver} (h : ChnA w u a N c l) (hb : Below u.heap.size u u') : ChnA w u' a N c l := ⟨h.own.past hb, h.len, h.oks⟩
theorem ChnA.room {w u : World} {a : Option Addr} {N c : Nat} {l : List Ver} (h : ChnA w u a N c l) : N ≤ c := by
  rcases h.own.own.2 with ⟨e1, e2⟩ | ⟨g, cap, cur, e1, _, _, e5, _⟩
  · omega
  · cases e1; exact e5
theorem ChnA.at_ {w u : World} {a : Option Addr} {N c : Nat} {l : List Ver} (h : ChnA w u a N c l) {i : Nat} {V : Ver} (hV : l[i]? = some V) : ∃ g, a = some ⟨g, 0, none⟩ ∧ ∀ v, Below u.heap.size u v → VerAt v g (i * 20) V := by
  rcases h.own.own.2 with ⟨e1, e2⟩ | ⟨g, cap, cur, e1, hg, hh, e5, _⟩
  · have e3 : l = [] := List.eq_nil_of_length_eq_zero (by have := h.len; omega)
    rw [e3] at hV; simp at hV
  · injection e1 with x1 x2 x3
    subst x1
    refine ⟨g, rfl, fun v hb => ⟨?_⟩⟩
    subst x3
    have hl := ((own_lies h.own.own).past hb).el h.oks.len hV
    rwa [Nat.zero_add] at hl
set_option maxHeartbeats 2000000 in
theorem rChain_any (B p : Nat) (L : List Ver) (k : List Int) (hk : Ky k) (w : World) (h : StoreR w B p L) :
    Calls Tryz.prog 64 #[.pointer (some ⟨p, 0, none⟩), kv k] w fun e w' => ∃ a c, e = .returned (.slice a (kMany L k) c) ∧ ChnA w w' a (kMany L k) c (chainV L k) := by
  have HV0 : Hid (Below w.heap.size w (w.alloc (.cells (kcs k) 38)) ∧ KeyAt (w.alloc (.cells (kcs k) 38)) w.heap.size 0 k) := by
    exact ⟨(Below.refl _ _).alloc (Nat.le_refl _) _, KeyAt.made w 38 k hk⟩
  obtain ⟨a0, c0, hcap, hnil, hform, hcell, hlies⟩ := h.srcC
  obtain ⟨i, hi⟩ : ∃ i, i = kFrom L k := ⟨_, rfl⟩
  obtain ⟨m, hm⟩ : ∃ m, m = kMany L k := ⟨_, rfl⟩
  obtain ⟨N, hN⟩ : ∃ N, N = L.length := ⟨_, rfl⟩
  have hle := kMany_le L k
  have hfew := h.few
  rw [← hN] at hcap hcell hle hfew hnil
  rw [← hi, ← hm] at hle
  have CH : Hid (∀ u, Below w.heap.size w u → Calls Tryz.prog 112 #[.pointer (some ⟨p, 0, none⟩), kv k] u fun e w' => e = .returned (.tuple #[.int .i64 (i : Nat), .int .i64 ((i + m : Nat) : Int)]) ∧ Below u.heap.size u w') := fun u hb => by
    rw [hi, hm]; exact rchain_any B p L k hk u (h.past hb)
  have HKK : Hid (Ky k) := hk
  have HCE : Hid (∀ v, Below w.heap.size w v → v.cell? ⟨p, 0, none⟩ = some (.slice a0 N c0)) := hcell
  have hlen := chain_len L k
  have hch : chainV L k = (L.drop i).take m := by unfold chainV; rw [← hi, ← hm]
  have HCH : Hid (chainV L k = (L.drop i).take m) := hch
  have HOC : Hid (OkL (chainV L k)) := fun V hV => h.oks V (List.mem_of_mem_drop (List.mem_of_mem_take hV))
  have HLC : Hid ((chainV L k).length = m) := by rw [hm]; exact hlen
  have HFL : Hid (((chainV L k).flatMap encV).length = m * 20) := by
    show _ = _
    rw [flat_len _ HOC.out.len, HLC.out]
  have HLI : Hid (∀ v, Below w.heap.size w v → Lies v (dropV a0 c0 i) ((chainV L k).flatMap encV)) := fun v hb => by
    have h1 := lies_dropV (k := i) hform (hlies v hb) h.oks (by rw [← hN]; exact hcap)
    have hok : OkL (L.drop i) := fun V hV => h.oks V (List.mem_of_mem_drop hV)
    rw [hch]
    have h2 := flat_take (L.drop i) m hok.len
    rw [← h2]
    cases hd : dropV a0 c0 i with
    | none => exact lies_none _ _
    | some ad =>
      rw [hd] at h1
      have hfm : ∃ bb oo, ad = ⟨bb, oo, none⟩ := by
        cases ha0 : a0 with
        | none => rw [ha0] at hd; cases hd
        | some ad0 =>
          obtain ⟨bb, rfl⟩ := hform ad0 ha0
          rw [ha0] at hd
          simp only [dropV] at hd
          split at hd
          · injection hd with e; exact ⟨_, _, e.symm⟩
          · injection hd with e; exact ⟨_, _, by rw [← e, addr_add]⟩
      obtain ⟨bb, oo, rfl⟩ := hfm
      exact h1.taken (m * 20)
  have HNI : Hid (dropV a0 c0 i = none → m = 0 ∧ c0 - i = 0) := fun e => by
    have h1 := hnil (dropV_none e)
    omega
  have hm6 : m ≤ 1000000 := by omega
  have i0 : (0 : Int) ≤ (i : Int) := by omega
  have hcast : ((i + m : Nat) : Int) = (i : Int) + (m : Int) := by push_cast; rfl
  have hsl : ∀ (u : World), (Instr.slice 109 (.slice a0 N c0) (some (.int .i64 (i : Int))) (some (.int .i64 ((i : Int) + (m : Int)))) none).run Tryz.prog u = .ok (.slice (dropV a0 c0 i) m (c0 - i)) u := fun u => by
    have h1 := slice_versM u a0 hform N c0 i (i + m) (by omega) (by omega) (fun e => (hnil e).2)
    rw [show i + m - i = m by omega] at h1
    rw [← hcast]
    exact h1
  obtain ⟨D, hD⟩ : ∃ D, D = dropV a0 c0 i := ⟨_, rfl⟩
  rw [← hD] at hsl HNI HLI
  rw [← hm]
  clear h hlies hcell hk hi hm hN hlen hch hcap hnil hform hle hD
  go_enter Tryz.func64, Tryz.ntmps64
  go_wp2_with (first | (refine wpList_load_keyD 9 (by rfl) (by rfl) _ (by rfl) w.heap.size 0 (by rfl) k HKK.out HV0.out.2 ?_) | (go_at_call 112; refine (CH.out _ HV0.out.1).mono ?_; rintro e w1 ⟨rfl, hb1⟩; have H1 : Hid (Below w.heap.size w w1) := HV0.out.1.trans (hb1.mono HV0.out.1.size); have q0 := HCE.out (w1.alloc (.cells #[] 127)) (H1.out.alloc H1.out.size _); clear hb1) | (at_builtin; refine wpList_own verEl (w0 := w1) rfl (.tmp 13) (.tmp 20) rfl _ 0 [] ((chainV L k).flatMap encV) rfl (own_rawC _ _ w1) _ _ _ rfl HFL.out (HLI.out _ (H1.out.alloc H1.out.size _)) (encs_one _) HNI.out m (Nat.zero_add _) (by omega) _ (List.nil_append _) ?_; intro a3 c3 w3 h3 h4; have O3 : Hid (OwnB 127 20 w1 w3 (.slice a3 m c3) m ((chainV L k).flatMap encV)) := h3; clear h3 h4 q0))
  all_goals go_ret
  all_goals exact ⟨a3, c3, rfl, ⟨⟨⟨O3.out.own.1, O3.out.own.2.imp (fun x => x) (fun ⟨g, cc, cur, x1, x2, x3⟩ => ⟨g, cc, cur, x1, Nat.le_trans H1.out.size x2, x3⟩)⟩, H1.out.trans (O3.out.below.mono H1.out.size)⟩, HLC.out, HOC.out⟩⟩
end Go.Proofs.YtileidbdmpeciaaGreat

namespace Go.Proofs.YtileidbdmpeciaaGreat
open Go.RowKit
set_option linter.unusedVariables false

theorem keyMine_zeroW (w : World) : KeyMine (w.alloc (.cells #[.int .u8 0, .int .u8 0, .int .u8 0, .int .u8 0, .int .u8 0, .int .u8 0, .int .u8 0, .int .u8 0, .int .u8 0, .int .u8 0, .int .u8 0, .int .u8 0, .int .u8 0, .int .u8 0, .int .u8 0, .int .u8 0] 38)) w.heap.size 0 zeroK := by
  have := KeyMine.made w 38 zeroK zeroK_ky
  rw [zero_cells] at this
  exact this
theorem key_boxed {w u : World} {k : List Int} (hk : Ky k) (hu : u = (w.alloc (.cells #[.int .u8 0, .int .u8 0, .int .u8 0, .int .u8 0, .int .u8 0, .int .u8 0, .int .u8 0, .int .u8 0, .int .u8 0, .int .u8 0, .int .u8 0, .int .u8 0, .int .u8 0, .int .u8 0, .int .u8 0, .int .u8 0] 38)).setCells w.heap.size 0 (k.map (Value.int .u8))) : Below w.heap.size w u ∧ w.heap.size < u.heap.size ∧ KeyAt u w.heap.size 0 k := by
  have hm := (keyMine_zeroW w).store hk
  rw [← hu] at hm
  refine ⟨?_, hm.lies.lt, hm.lies⟩
  obtain ⟨A, hA⟩ : ∃ A, A = w.alloc (.cells #[.int .u8 0, .int .u8 0, .int .u8 0, .int .u8 0, .int .u8 0, .int .u8 0, .int .u8 0, .int .u8 0, .int .u8 0, .int .u8 0, .int .u8 0, .int .u8 0, .int .u8 0, .int .u8 0, .int .u8 0, .int .u8 0] 38) := ⟨_, rfl⟩
  rw [← hA] at hu
  have hb : Below w.heap.size w A := by rw [hA]; exact (Below.refl _ _).alloc (Nat.le_refl _) _
  have cu : Chg A u (fun j => j = w.heap.size) := by rw [hu]; exact chg_cells w.heap.size _ 0 A
  exact hb.trans (cu.below hb.size (fun k e => Nat.le_of_eq e.symm))
end Go.Proofs.YtileidbdmpeciaaGreat

namespace Go.Proofs.YtileidbdmpeciaaGreat
open Go.RowKit
set_option linter.unusedVariables false

/-- A region of a body, by its number. -/
def findRegion (n : Nat) : Code → Option Code
  | .region id ops b => if id = n then some (.region id ops b) else none
  | .seq a b => match findRegion n a with
    | some c => some c
    | none => findRegion n b
  | .block _ c => findRegion n c
  | .scope c => findRegion n c
  | .cond _ a b => match findRegion n a with
    | some c => some c
    | none => findRegion n b
  | .loop c => findRegion n c
  | _ => none
noncomputable def sreg (n : Nat) : Code := (Tryz.f65.body.bind (findRegion n)).getD .skip
def op20 (p : String) : Oper := { dst := some 20, op := Op.load 38 (Operand.tmp 19), type := 38, pos := p, after := #[{ on := 7, ground := Ground.data }, { on := 4, ground := Ground.guard }], guard := some (4, true) }
def op38 (p : String) : Oper := { dst := some 38, op := Op.load 38 (Operand.tmp 37), type := 38, pos := p, after := #[{ on := 7, ground := Ground.data }, { on := 4, ground := Ground.guard }], guard := some (4, true) }
theorem hop20 (p : String) : op20 p = { dst := some 20, op := Op.load 38 (Operand.tmp 19), type := 38, pos := p, after := #[{ on := 7, ground := Ground.data }, { on := 4, ground := Ground.guard }], guard := some (4, true) } := rfl
theorem hop38 (p : String) : op38 p = { dst := some 38, op := Op.load 38 (Operand.tmp 37), type := 38, pos := p, after := #[{ on := 7, ground := Ground.data }, { on := 4, ground := Ground.guard }], guard := some (4, true) } := rfl
theorem gd20 (p : String) : (op20 p).guard = some (4, true) := rfl
theorem gd38 (p : String) : (op38 p).guard = some (4, true) := rfl
theorem sixteen {k : List Int} (h : Ky k) : ∃ z0 z1 z2 z3 z4 z5 z6 z7 z8 z9 z10 z11 z12 z13 z14 z15, k = [z0, z1, z2, z3, z4, z5, z6, z7, z8, z9, z10, z11, z12, z13, z14, z15] := by
  have hl := h.len
  match k, hl with
  | [z0, z1, z2, z3, z4, z5, z6, z7, z8, z9, z10, z11, z12, z13, z14, z15], _ => exact ⟨z0, z1, z2, z3, z4, z5, z6, z7, z8, z9, z10, z11, z12, z13, z14, z15, rfl⟩
theorem dd20 (p : String) : (op20 p).dst = some 20 := rfl
theorem dd38 (p : String) : (op38 p).dst = some 38 := rfl
theorem oo20 (p : String) : (op20 p).op = Op.load 38 (Operand.tmp 19) := rfl
theorem oo38 (p : String) : (op38 p).op = Op.load 38 (Operand.tmp 37) := rfl
set_option maxRecDepth 8000 in
set_option maxHeartbeats 4000000 in
theorem sreg6 (w : World) (Q : Exit → Act → World → Prop) (b o N cap g M cp i k : Nat) (X Y : List Int) {x1 x2 x6 x7 x8 x9 x10 x11 x12 x13 x14 x15 x16 x17 x18 x19 x20 x21 x22 x23 x24 x25 x26 x27 x28 x29 x30 x31 x32 x33 x34 x35 x36 x37 x38 x39 x40 x41 x42 x43 x44 x45 x46 x47 x48 x49 x50 x51 x52 x53 x54 x55 x56 x57 x58 x59 x60 : Value} (hX : Ky X) (hY : Ky Y) (hi : i < N) (hk : k < M) (atY : KeyAt w g (k * 16) Y) (atX : KeyAt w b (o + i * 16) X) (hN : N ≤ 1000) (hM : M ≤ 1000)
    (hQ : ∀ (y12 y13 y14 y15 y16 y17 y18 y19 y20 y21 y22 y23 y24 y25 y26 : Value) (w5 : World), Below w.heap.size w w5 → Q .normal ⟨#[.slice (some ⟨b, o, none⟩) N cap, x1, x2, .slice (some ⟨g, 0, none⟩) M cp, .int .i64 i, .int .i64 k, x6, x7, x8, x9, x10, x11, y12, y13, y14, y15, y16, y17, y18, y19, y20, y21, y22, y23, y24, y25, y26, .bool (decide (lexC Y X < 0)), x28, x29, x30, x31, x32, x33, x34, x35, x36, x37, x38, x39, x40, x41, x42, x43, x44, x45, x46, x47, x48, x49, x50, x51, x52, x53, x54, x55, x56, x57, x58, x59, x60], []⟩ w5) : Code.wp Tryz.prog (sreg 6) Q ⟨#[.slice (some ⟨b, o, none⟩) N cap, x1, x2, .slice (some ⟨g, 0, none⟩) M cp, .int .i64 i, .int .i64 k, x6, x7, x8, x9, x10, x11, x12, x13, x14, x15, x16, x17, x18, x19, x20, x21, x22, x23, x24, x25, x26, x27, x28, x29, x30, x31, x32, x33, x34, x35, x36, x37, x38, x39, x40, x41, x42, x43, x44, x45, x46, x47, x48, x49, x50, x51, x52, x53, x54, x55, x56, x57, x58, x59, x60], []⟩ w := by
  conv => arg 2; whnf
  obtain ⟨z0, z1, z2, z3, z4, z5, z6, z7, z8, z9, z10, z11, z12, z13, z14, z15, rfl⟩ := sixteen hY
  have c0 : w.cell? ⟨g, k * 16, none⟩ = some (.int .u8 z0) := atY.cell 0 (by omega)
  have c1 : w.cell? ⟨g, k * 16 + 1, none⟩ = some (.int .u8 z1) := atY.cell 1 (by omega)
  have c2 : w.cell? ⟨g, k * 16 + 2, none⟩ = some (.int .u8 z2) := atY.cell 2 (by omega)
  have c3 : w.cell? ⟨g, k * 16 + 3, none⟩ = some (.int .u8 z3) := atY.cell 3 (by omega)
  have c4 : w.cell? ⟨g, k * 16 + 4, none⟩ = some (.int .u8 z4) := atY.cell 4 (by omega)
  have c5 : w.cell? ⟨g, k * 16 + 5, none⟩ = some (.int .u8 z5) := atY.cell 5 (by omega)
  have c6 : w.cell? ⟨g, k * 16 + 6, none⟩ = some (.int .u8 z6) := atY.cell 6 (by omega)
  have c7 : w.cell? ⟨g, k * 16 + 7, none⟩ = some (.int .u8 z7) := atY.cell 7 (by omega)
  have c8 : w.cell? ⟨g, k * 16 + 8, none⟩ = some (.int .u8 z8) := atY.cell 8 (by omega)
  have c9 : w.cell? ⟨g, k * 16 + 9, none⟩ = some (.int .u8 z9) := atY.cell 9 (by omega)
  have c10 : w.cell? ⟨g, k * 16 + 10, none⟩ = some (.int .u8 z10) := atY.cell 10 (by omega)
  have c11 : w.cell? ⟨g, k * 16 + 11, none⟩ = some (.int .u8 z11) := atY.cell 11 (by omega)
  have c12 : w.cell? ⟨g, k * 16 + 12, none⟩ = some (.int .u8 z12) := atY.cell 12 (by omega)
  have c13 : w.cell? ⟨g, k * 16 + 13, none⟩ = some (.int .u8 z13) := atY.cell 13 (by omega)
  have c14 : w.cell? ⟨g, k * 16 + 14, none⟩ = some (.int .u8 z14) := atY.cell 14 (by omega)
  have c15 : w.cell? ⟨g, k * 16 + 15, none⟩ = some (.int .u8 z15) := atY.cell 15 (by omega)
  have d20 := dd20
  have d38 := dd38
  have o20 := oo20
  have o38 := oo38
  have KS : Hid (∀ u, Below w.heap.size w u → u.rangeAt b (o + i * 16) (X.map (Value.int .u8))) := fun u hb => (atX.past hb).range hX
  have HQ : Hid _ := hQ
  have HX : Hid (Ky X) := hX
  have hu := Tryz.underlying38
  have hinf := info_keyl X hX
  have i0 : (0 : Int) ≤ (i : Int) := by omega
  have i1 : (i : Int) < (N : Int) := by omega
  have k0 : (0 : Int) ≤ (k : Int) := by omega
  have k1 : (k : Int) < (M : Int) := by omega
  have g20 := gd20
  have g38 := gd38
  obtain ⟨L, hL⟩ : ∃ L, L = lexC [z0, z1, z2, z3, z4, z5, z6, z7, z8, z9, z10, z11, z12, z13, z14, z15] X := ⟨_, rfl⟩
  have C1 : Hid (∀ u, Calls Tryz.prog 114 #[.agg #[.int .u8 z0, .int .u8 z1, .int .u8 z2, .int .u8 z3, .int .u8 z4, .int .u8 z5, .int .u8 z6, .int .u8 z7, .int .u8 z8, .int .u8 z9, .int .u8 z10, .int .u8 z11, .int .u8 z12, .int .u8 z13, .int .u8 z14, .int .u8 z15], kv X] u fun e w' => e = .returned (.int .i64 L) ∧ Below u.heap.size u w') := fun u => by rw [hL]; exact rcmp_any _ X hY hX u
  rw [← hL] at HQ
  clear hQ hX hY atX atY hL
  rw [← hop20]
  go_region_held3 (fun u => u.rangeAt b (o + i * 16) (X.map (Value.int .u8))) (first | exact KS.out _ H5.out | exact KS.out _ (Below.refl _ _) | exact KS.out _ (Below.refl _ _).drew) ((go_at_call 114; refine (C1.out _).mono ?_; rintro e w5 ⟨rfl, hb5⟩; have H5 : Hid (Below w.heap.size w w5) := (Below.refl w.heap.size w).drew.trans hb5; clear hb5))
  exact HQ.out _ _ _ _ _ _ _ _ _ _ _ _ _ _ _ _ H5.out
set_option maxRecDepth 8000 in
set_option maxHeartbeats 4000000 in
theorem sreg8 (w : World) (Q : Exit → Act → World → Prop) (b o N cap g M cp i k : Nat) (X Y : List Int) {x1 x2 x6 x7 x8 x9 x10 x11 x12 x13 x14 x15 x16 x17 x18 x19 x20 x21 x22 x23 x24 x25 x26 x27 x28 x29 x30 x31 x32 x33 x34 x35 x36 x37 x38 x39 x40 x41 x42 x43 x44 x45 x46 x47 x48 x49 x50 x51 x52 x53 x54 x55 x56 x57 x58 x59 x60 : Value} (hX : Ky X) (hY : Ky Y) (hi : i < N) (hk : k < M) (atY : KeyAt w g (k * 16) Y) (atX : KeyAt w b (o + i * 16) X) (hN : N ≤ 1000) (hM : M ≤ 1000)
    (hQ : ∀ (y30 y31 y32 y33 y34 y35 y36 y37 y38 y39 y40 y41 y42 y43 : Value) (w5 : World), Below w.heap.size w w5 → Q .normal ⟨#[.slice (some ⟨b, o, none⟩) N cap, x1, x2, .slice (some ⟨g, 0, none⟩) M cp, .int .i64 i, .int .i64 k, x6, x7, x8, x9, x10, x11, x12, x13, x14, x15, x16, x17, x18, x19, x20, x21, x22, x23, x24, x25, x26, x27, x28, x29, y30, y31, y32, y33, y34, y35, y36, y37, y38, y39, y40, y41, y42, y43, .bool (decide (Y = X)), x45, x46, x47, x48, x49, x50, x51, x52, x53, x54, x55, x56, x57, x58, x59, x60], []⟩ w5) : Code.wp Tryz.prog (sreg 8) Q ⟨#[.slice (some ⟨b, o, none⟩) N cap, x1, x2, .slice (some ⟨g, 0, none⟩) M cp, .int .i64 i, .int .i64 k, x6, x7, x8, x9, x10, x11, x12, x13, x14, x15, x16, x17, x18, x19, x20, x21, x22, x23, x24, x25, x26, x27, x28, x29, x30, x31, x32, x33, x34, x35, x36, x37, x38, x39, x40, x41, x42, x43, x44, x45, x46, x47, x48, x49, x50, x51, x52, x53, x54, x55, x56, x57, x58, x59, x60], []⟩ w := by
  conv => arg 2; whnf
  obtain ⟨z0, z1, z2, z3, z4, z5, z6, z7, z8, z9, z10, z11, z12, z13, z14, z15, rfl⟩ := sixteen hY
  have c0 : w.cell? ⟨g, k * 16, none⟩ = some (.int .u8 z0) := atY.cell 0 (by omega)
  have c1 : w.cell? ⟨g, k * 16 + 1, none⟩ = some (.int .u8 z1) := atY.cell 1 (by omega)
  have c2 : w.cell? ⟨g, k * 16 + 2, none⟩ = some (.int .u8 z2) := atY.cell 2 (by omega)
  have c3 : w.cell? ⟨g, k * 16 + 3, none⟩ = some (.int .u8 z3) := atY.cell 3 (by omega)
  have c4 : w.cell? ⟨g, k * 16 + 4, none⟩ = some (.int .u8 z4) := atY.cell 4 (by omega)
  have c5 : w.cell? ⟨g, k * 16 + 5, none⟩ = some (.int .u8 z5) := atY.cell 5 (by omega)
  have c6 : w.cell? ⟨g, k * 16 + 6, none⟩ = some (.int .u8 z6) := atY.cell 6 (by omega)
  have c7 : w.cell? ⟨g, k * 16 + 7, none⟩ = some (.int .u8 z7) := atY.cell 7 (by omega)
  have c8 : w.cell? ⟨g, k * 16 + 8, none⟩ = some (.int .u8 z8) := atY.cell 8 (by omega)
  have c9 : w.cell? ⟨g, k * 16 + 9, none⟩ = some (.int .u8 z9) := atY.cell 9 (by omega)
  have c10 : w.cell? ⟨g, k * 16 + 10, none⟩ = some (.int .u8 z10) := atY.cell 10 (by omega)
  have c11 : w.cell? ⟨g, k * 16 + 11, none⟩ = some (.int .u8 z11) := atY.cell 11 (by omega)
  have c12 : w.cell? ⟨g, k * 16 + 12, none⟩ = some (.int .u8 z12) := atY.cell 12 (by omega)
  have c13 : w.cell? ⟨g, k * 16 + 13, none⟩ = some (.int .u8 z13) := atY.cell 13 (by omega)
  have c14 : w.cell? ⟨g, k * 16 + 14, none⟩ = some (.int .u8 z14) := atY.cell 14 (by omega)
  have c15 : w.cell? ⟨g, k * 16 + 15, none⟩ = some (.int .u8 z15) := atY.cell 15 (by omega)
  have d20 := dd20
  have d38 := dd38
  have o20 := oo20
  have o38 := oo38
  have KS : Hid (∀ u, Below w.heap.size w u → u.rangeAt b (o + i * 16) (X.map (Value.int .u8))) := fun u hb => (atX.past hb).range hX
  have HQ : Hid _ := hQ
  have HX : Hid (Ky X) := hX
  have hu := Tryz.underlying38
  have hinf := info_keyl X hX
  have i0 : (0 : Int) ≤ (i : Int) := by omega
  have i1 : (i : Int) < (N : Int) := by omega
  have k0 : (0 : Int) ≤ (k : Int) := by omega
  have k1 : (k : Int) < (M : Int) := by omega
  have g20 := gd20
  have g38 := gd38
  have hq : ∀ u, (Op.equalIn 10000 38 (.agg #[.int .u8 z0, .int .u8 z1, .int .u8 z2, .int .u8 z3, .int .u8 z4, .int .u8 z5, .int .u8 z6, .int .u8 z7, .int .u8 z8, .int .u8 z9, .int .u8 z10, .int .u8 z11, .int .u8 z12, .int .u8 z13, .int .u8 z14, .int .u8 z15]) (kv X)).run Tryz.prog u = .ok (decide ([z0, z1, z2, z3, z4, z5, z6, z7, z8, z9, z10, z11, z12, z13, z14, z15] = X)) u := fun u => eq_key u [z0, z1, z2, z3, z4, z5, z6, z7, z8, z9, z10, z11, z12, z13, z14, z15] X hY hX
  clear hQ hX hY atX atY
  rw [← hop38]
  go_region_held3 (fun u => u.rangeAt b (o + i * 16) (X.map (Value.int .u8))) (first | exact KS.out _ (Below.refl _ _) | exact KS.out _ (Below.refl _ _).drew) (fail)
  exact HQ.out _ _ _ _ _ _ _ _ _ _ _ _ _ _ _ (Below.refl _ _).drew
end Go.Proofs.YtileidbdmpeciaaGreat

namespace Go.Proofs.YtileidbdmpeciaaGreat
open Go.RowKit
set_option linter.unusedVariables false
set_option maxRecDepth 8000 in
set_option maxHeartbeats 4000000 in
theorem sreg9n (w : World) (Q : Exit → Act → World → Prop) (b o N cap i : Nat) (X : List Int) {x1 x2 x6 x7 x8 x9 x10 x11 x12 x13 x14 x15 x16 x17 x18 x19 x20 x21 x22 x23 x24 x25 x26 x27 x28 x29 x30 x31 x32 x33 x34 x35 x36 x37 x38 x39 x40 x41 x42 x43 x44 x45 x46 x47 x48 x49 x50 x51 x52 x53 x54 x55 x56 x57 x58 x59 x60 : Value} (hX : Ky X) (hi : i < N) (atX : KeyAt w b (o + i * 16) X) (hN : N ≤ 1000)
    (hQ : ∀ (y45 y46 y47 y48 y49 y50 y51 y52 y53 y54 y55 y56 y57 y58 y59 : Value) (a5 : Option Addr) (c5 : Nat) (w5 : World), OwnB 38 16 w w5 (.slice a5 (0 + 1 + 0) c5) (0 + 1 + 0) ([] ++ kc X ++ []) → Q .normal ⟨#[.slice (some ⟨b, o, none⟩) N cap, x1, x2, (.slice a5 (0 + 1 + 0) c5), .int .i64 i, .int .i64 0, x6, x7, x8, x9, x10, x11, x12, x13, x14, x15, x16, x17, x18, x19, x20, x21, x22, x23, x24, x25, x26, x27, x28, x29, x30, x31, x32, x33, x34, x35, x36, x37, x38, x39, x40, x41, x42, x43, x44, y45, y46, y47, y48, y49, y50, y51, y52, y53, y54, y55, y56, y57, y58, y59, x60], []⟩ w5) : Code.wp Tryz.prog (sreg 9) Q ⟨#[.slice (some ⟨b, o, none⟩) N cap, x1, x2, .slice none 0 0, .int .i64 i, .int .i64 0, x6, x7, x8, x9, x10, x11, x12, x13, x14, x15, x16, x17, x18, x19, x20, x21, x22, x23, x24, x25, x26, x27, x28, x29, x30, x31, x32, x33, x34, x35, x36, x37, x38, x39, x40, x41, x42, x43, x44, x45, x46, x47, x48, x49, x50, x51, x52, x53, x54, x55, x56, x57, x58, x59, x60], []⟩ w := by
  conv => arg 2; whnf
  have LA : Hid (([] : List Value).length = 0 * 16) := rfl
  have LB : Hid (([] : List Value).length = 0 * 16) := rfl
  have S1 : Hid (∀ u, Below w.heap.size w u → Lies u none []) := fun u _ => lies_none u []
  have S2 : Hid (∀ u, Below w.heap.size w u → Lies u none []) := fun u _ => lies_none u []
  have HXA : Hid (∀ u, Below w.heap.size w u → u.rangeAt b (o + i * 16) (X.map (Value.int .u8))) := fun u hb => (atX.past hb).range hX
  have HQ : Hid _ := hQ
  have hu := Tryz.underlying38
  have hinf := info_keyl X hX
  have hxl : X.length = 16 := hX.len
  have hfold := fold_key X hX
  have i0 : (0 : Int) ≤ (i : Int) := by omega
  have i1 : (i : Int) < (N : Int) := by omega
  have HLV : Hid ((kc X).length = 1 * 16) := kc_len hX
  have HVO : Hid (∀ u ∈ kc X, u.oneCell' = true) := ints_oneCell _ _
  clear hQ hX atX
  go_region_held3 (fun u => u.rangeAt b (o + i * 16) (X.map (Value.int .u8))) (first | exact HXA.out _ HO5.out.below | exact HXA.out _ HO4.out.below | exact HXA.out _ (HO3.out.alloc _).below | exact HXA.out _ HO3.out.below | exact HXA.out _ (Below.refl _ _) | exact HXA.out _ ((Below.refl _ _).alloc (Nat.le_refl _) _) | exact HXA.out _ (((Below.refl _ _).alloc (Nat.le_refl _) _).alloc (by simp) _) | exact HXA.out _ (Below.refl _ _).drew | exact HXA.out _ ((Below.refl _ _).alloc (Nat.le_refl _) _).drew | exact HXA.out _ (((Below.refl _ _).alloc (Nat.le_refl _) _).alloc (by simp) _).drew) (first | (have hgo := HO4.out; clear hgo; refine step_own keyEl (w0 := w) rfl (.tmp 55) (.tmp 58) rfl _ (0 + 1) ([] ++ kc X) ([]) rfl HO4.out _ _ _ rfl LB.out (S2.out _ HO4.out.below) (fun u hu => by simp at hu) (fun _ => ⟨rfl, rfl⟩) (0 + 1 + 0) rfl (by omega) ([] ++ kc X ++ []) rfl ?_; intro a5 c5 w5 h1 h2; have HO5 : Hid (OwnB 38 16 w w5 (.slice a5 (0 + 1 + 0) c5) (0 + 1 + 0) ([] ++ kc X ++ [])) := h1; clear h1 h2 HO4) | (have hgo := HX3.out; clear hgo; refine step_own keyEl (w0 := w) rfl (.tmp 49) (.tmp 54) rfl _ (0) ([]) (kc X) rfl HO3.out _ _ _ rfl HLV.out HX3.out HVO.out (fun h => by cases h) (0 + 1) rfl (by omega) ([] ++ kc X) rfl ?_; intro a4 c4 w4 h1 h2; have HO4 : Hid (OwnB 38 16 w w4 (.slice a4 (0 + 1) c4) (0 + 1) ([] ++ kc X)) := h1; clear h1 h2 HO3) | (refine step_own keyEl (w0 := w) rfl (.tmp 45) (.tmp 48) rfl _ 0 [] ([]) rfl (own_one 38 16 w) _ _ _ rfl LA.out (S1.out _ (own_one 38 16 w).below) (fun u hu => by simp at hu) (fun _ => ⟨rfl, rfl⟩) (0) (Nat.zero_add _) (by omega) ([]) (List.nil_append _) ?_; intro a3 c3 w3 h1 h2; have HO3 : Hid (OwnB 38 16 w w3 (.slice a3 (0) c3) (0) ([])) := h1; clear h1 h2) | (refine step_own keyEl (w0 := w) rfl (.tmp 45) (.tmp 48) rfl _ 0 [] ([]) rfl (own_two 38 16 w _) _ _ _ rfl LA.out (S1.out _ (own_two 38 16 w _).below) (fun u hu => by simp at hu) (fun _ => ⟨rfl, rfl⟩) (0) (Nat.zero_add _) (by omega) ([]) (List.nil_append _) ?_; intro a3 c3 w3 h1 h2; have HO3 : Hid (OwnB 38 16 w w3 (.slice a3 (0) c3) (0) ([])) := h1; have HX3 : Hid (Lies w3 (some ⟨w.heap.size + 1, 0, none⟩) (kc X)) := (made_two w 38 38 #[] _ _ _).step (v' := .slice none 0 0) h2; clear h1 h2) | (refine step_own keyEl (w0 := w) rfl (.tmp 45) (.tmp 48) rfl _ 0 [] ([]) rfl (own_behind 38 16 w _) _ _ _ rfl LA.out (S1.out _ (own_behind 38 16 w _).below) (fun u hu => by simp at hu) (fun _ => ⟨rfl, rfl⟩) (0) (Nat.zero_add _) (by omega) ([]) (List.nil_append _) ?_; intro a3 c3 w3 h1 h2; have HO3 : Hid (OwnB 38 16 w w3 (.slice a3 (0) c3) (0) ([])) := h1; have HX3 : Hid (Lies w3 (some ⟨w.heap.size, 0, none⟩) (kc X)) := (made_ahead w 38 38 #[] _ _ _).step (v' := .slice none 0 0) h2; clear h1 h2) | (have hgo := HO3.out; clear hgo; refine step_own keyEl (w0 := w) rfl (.tmp 49) (.tmp 54) rfl _ (0) ([]) (kc X) rfl (HO3.out.alloc _) _ _ _ rfl HLV.out (lies_made _ _ _) HVO.out (fun h => by cases h) (0 + 1) rfl (by omega) ([] ++ kc X) rfl ?_; intro a4 c4 w4 h1 h2; have HO4 : Hid (OwnB 38 16 w w4 (.slice a4 (0 + 1) c4) (0 + 1) ([] ++ kc X)) := h1; clear h1 h2 HO3))
  all_goals exact HQ.out _ _ _ _ _ _ _ _ _ _ _ _ _ _ _ _ _ _ HO5.out
set_option maxRecDepth 8000 in
set_option maxHeartbeats 4000000 in
theorem sreg9a (w : World) (Q : Exit → Act → World → Prop) (b o N cap g M cp i k : Nat) (S : List (List Int)) (X : List Int) {x1 x2 x6 x7 x8 x9 x10 x11 x12 x13 x14 x15 x16 x17 x18 x19 x20 x21 x22 x23 x24 x25 x26 x27 x28 x29 x30 x31 x32 x33 x34 x35 x36 x37 x38 x39 x40 x41 x42 x43 x44 x45 x46 x47 x48 x49 x50 x51 x52 x53 x54 x55 x56 x57 x58 x59 x60 : Value} (hX : Ky X) (hi : i < N) (atX : KeyAt w b (o + i * 16) X) (hN : N ≤ 1000) (hM : M ≤ 1000) (hS : KeysAt w (some ⟨g, 0, none⟩) S) (hSM : S.length = M) (hk : k ≤ M) (hcp : M ≤ cp) (hkc : ¬ cp = k)
    (hQ : ∀ (y45 y46 y47 y48 y49 y50 y51 y52 y53 y54 y55 y56 y57 y58 y59 : Value) (a5 : Option Addr) (c5 : Nat) (w5 : World), OwnB 38 16 w w5 (.slice a5 (k + 1 + (M - k)) c5) (k + 1 + (M - k)) ((S.take k).flatMap kc ++ kc X ++ (S.drop k).flatMap kc) → Q .normal ⟨#[.slice (some ⟨b, o, none⟩) N cap, x1, x2, (.slice a5 (k + 1 + (M - k)) c5), .int .i64 i, .int .i64 k, x6, x7, x8, x9, x10, x11, x12, x13, x14, x15, x16, x17, x18, x19, x20, x21, x22, x23, x24, x25, x26, x27, x28, x29, x30, x31, x32, x33, x34, x35, x36, x37, x38, x39, x40, x41, x42, x43, x44, y45, y46, y47, y48, y49, y50, y51, y52, y53, y54, y55, y56, y57, y58, y59, x60], []⟩ w5) : Code.wp Tryz.prog (sreg 9) Q ⟨#[.slice (some ⟨b, o, none⟩) N cap, x1, x2, .slice (some ⟨g, 0, none⟩) M cp, .int .i64 i, .int .i64 k, x6, x7, x8, x9, x10, x11, x12, x13, x14, x15, x16, x17, x18, x19, x20, x21, x22, x23, x24, x25, x26, x27, x28, x29, x30, x31, x32, x33, x34, x35, x36, x37, x38, x39, x40, x41, x42, x43, x44, x45, x46, x47, x48, x49, x50, x51, x52, x53, x54, x55, x56, x57, x58, x59, x60], []⟩ w := by
  conv => arg 2; whnf
  have LA : Hid (((S.take k).flatMap kc).length = k * 16) := by show _ = _; rw [flat_len _ (hS.kys.take k).len, List.length_take, hSM, Nat.min_eq_left hk]
  have LB : Hid (((S.drop k).flatMap kc).length = (M - k) * 16) := by show _ = _; rw [flat_len _ (fun x hx => hS.kys.len x (List.mem_of_mem_drop hx)), List.length_drop, hSM]
  have S1 : Hid (∀ u, Below w.heap.size w u → Lies u (some ⟨g, 0, none⟩) ((S.take k).flatMap kc)) := fun u hb => by rw [← flat_take S k hS.kys.len]; exact (hS.lies.past hb).taken _
  have S2 : Hid (∀ u, Below w.heap.size w u → Lies u (some ⟨g, k * 16, none⟩) ((S.drop k).flatMap kc)) := fun u hb => by have h := (hS.lies.past hb).dropped (k * 16); rw [flat_drop S k hS.kys.len, Nat.zero_add] at h; exact h
  have k0 : (0 : Int) ≤ (k : Int) := by omega
  have k1 : (k : Int) ≤ (M : Int) := by omega
  have k2 : (k : Int) ≤ (cp : Int) := by omega
  have k3 : (M : Int) ≤ (cp : Int) := by omega
  clear hS hSM
  have kn : ¬ cp = k := hkc
  have HXA : Hid (∀ u, Below w.heap.size w u → u.rangeAt b (o + i * 16) (X.map (Value.int .u8))) := fun u hb => (atX.past hb).range hX
  have HQ : Hid _ := hQ
  have hu := Tryz.underlying38
  have hinf := info_keyl X hX
  have hxl : X.length = 16 := hX.len
  have hfold := fold_key X hX
  have i0 : (0 : Int) ≤ (i : Int) := by omega
  have i1 : (i : Int) < (N : Int) := by omega
  have HLV : Hid ((kc X).length = 1 * 16) := kc_len hX
  have HVO : Hid (∀ u ∈ kc X, u.oneCell' = true) := ints_oneCell _ _
  clear hQ hX atX
  go_region_held3 (fun u => u.rangeAt b (o + i * 16) (X.map (Value.int .u8))) (first | exact HXA.out _ HO5.out.below | exact HXA.out _ HO4.out.below | exact HXA.out _ (HO3.out.alloc _).below | exact HXA.out _ HO3.out.below | exact HXA.out _ (Below.refl _ _) | exact HXA.out _ ((Below.refl _ _).alloc (Nat.le_refl _) _) | exact HXA.out _ (((Below.refl _ _).alloc (Nat.le_refl _) _).alloc (by simp) _) | exact HXA.out _ (Below.refl _ _).drew | exact HXA.out _ ((Below.refl _ _).alloc (Nat.le_refl _) _).drew | exact HXA.out _ (((Below.refl _ _).alloc (Nat.le_refl _) _).alloc (by simp) _).drew) (first | (have hgo := HO4.out; clear hgo; refine step_own keyEl (w0 := w) rfl (.tmp 55) (.tmp 58) rfl _ (k + 1) ((S.take k).flatMap kc ++ kc X) ((S.drop k).flatMap kc) rfl HO4.out _ _ _ rfl LB.out (S2.out _ HO4.out.below) Kys.one (fun h => by cases h) (k + 1 + (M - k)) rfl (by omega) ((S.take k).flatMap kc ++ kc X ++ (S.drop k).flatMap kc) rfl ?_; intro a5 c5 w5 h1 h2; have HO5 : Hid (OwnB 38 16 w w5 (.slice a5 (k + 1 + (M - k)) c5) (k + 1 + (M - k)) ((S.take k).flatMap kc ++ kc X ++ (S.drop k).flatMap kc)) := h1; clear h1 h2 HO4) | (have hgo := HX3.out; clear hgo; refine step_own keyEl (w0 := w) rfl (.tmp 49) (.tmp 54) rfl _ (k) ((S.take k).flatMap kc) (kc X) rfl HO3.out _ _ _ rfl HLV.out HX3.out HVO.out (fun h => by cases h) (k + 1) rfl (by omega) ((S.take k).flatMap kc ++ kc X) rfl ?_; intro a4 c4 w4 h1 h2; have HO4 : Hid (OwnB 38 16 w w4 (.slice a4 (k + 1) c4) (k + 1) ((S.take k).flatMap kc ++ kc X)) := h1; clear h1 h2 HO3) | (refine step_own keyEl (w0 := w) rfl (.tmp 45) (.tmp 48) rfl _ 0 [] ((S.take k).flatMap kc) rfl (own_one 38 16 w) _ _ _ rfl LA.out (S1.out _ (own_one 38 16 w).below) Kys.one (fun h => by cases h) (k) (Nat.zero_add _) (by omega) ((S.take k).flatMap kc) (List.nil_append _) ?_; intro a3 c3 w3 h1 h2; have HO3 : Hid (OwnB 38 16 w w3 (.slice a3 (k) c3) (k) ((S.take k).flatMap kc)) := h1; clear h1 h2) | (refine step_own keyEl (w0 := w) rfl (.tmp 45) (.tmp 48) rfl _ 0 [] ((S.take k).flatMap kc) rfl (own_two 38 16 w _) _ _ _ rfl LA.out (S1.out _ (own_two 38 16 w _).below) Kys.one (fun h => by cases h) (k) (Nat.zero_add _) (by omega) ((S.take k).flatMap kc) (List.nil_append _) ?_; intro a3 c3 w3 h1 h2; have HO3 : Hid (OwnB 38 16 w w3 (.slice a3 (k) c3) (k) ((S.take k).flatMap kc)) := h1; have HX3 : Hid (Lies w3 (some ⟨w.heap.size + 1, 0, none⟩) (kc X)) := (made_two w 38 38 #[] _ _ _).step (v' := .slice none 0 0) h2; clear h1 h2) | (refine step_own keyEl (w0 := w) rfl (.tmp 45) (.tmp 48) rfl _ 0 [] ((S.take k).flatMap kc) rfl (own_behind 38 16 w _) _ _ _ rfl LA.out (S1.out _ (own_behind 38 16 w _).below) Kys.one (fun h => by cases h) (k) (Nat.zero_add _) (by omega) ((S.take k).flatMap kc) (List.nil_append _) ?_; intro a3 c3 w3 h1 h2; have HO3 : Hid (OwnB 38 16 w w3 (.slice a3 (k) c3) (k) ((S.take k).flatMap kc)) := h1; have HX3 : Hid (Lies w3 (some ⟨w.heap.size, 0, none⟩) (kc X)) := (made_ahead w 38 38 #[] _ _ _).step (v' := .slice none 0 0) h2; clear h1 h2) | (have hgo := HO3.out; clear hgo; refine step_own keyEl (w0 := w) rfl (.tmp 49) (.tmp 54) rfl _ (k) ((S.take k).flatMap kc) (kc X) rfl (HO3.out.alloc _) _ _ _ rfl HLV.out (lies_made _ _ _) HVO.out (fun h => by cases h) (k + 1) rfl (by omega) ((S.take k).flatMap kc ++ kc X) rfl ?_; intro a4 c4 w4 h1 h2; have HO4 : Hid (OwnB 38 16 w w4 (.slice a4 (k + 1) c4) (k + 1) ((S.take k).flatMap kc ++ kc X)) := h1; clear h1 h2 HO3))
  all_goals exact HQ.out _ _ _ _ _ _ _ _ _ _ _ _ _ _ _ _ _ _ HO5.out
set_option maxRecDepth 8000 in
set_option maxHeartbeats 4000000 in
theorem sreg9b (w : World) (Q : Exit → Act → World → Prop) (b o N cap g i k : Nat) (S : List (List Int)) (X : List Int) {x1 x2 x6 x7 x8 x9 x10 x11 x12 x13 x14 x15 x16 x17 x18 x19 x20 x21 x22 x23 x24 x25 x26 x27 x28 x29 x30 x31 x32 x33 x34 x35 x36 x37 x38 x39 x40 x41 x42 x43 x44 x45 x46 x47 x48 x49 x50 x51 x52 x53 x54 x55 x56 x57 x58 x59 x60 : Value} (hX : Ky X) (hi : i < N) (atX : KeyAt w b (o + i * 16) X) (hN : N ≤ 1000) (hM : k ≤ 1000) (hS : KeysAt w (some ⟨g, 0, none⟩) S) (hSM : S.length = k)
    (hQ : ∀ (y45 y46 y47 y48 y49 y50 y51 y52 y53 y54 y55 y56 y57 y58 y59 : Value) (a5 : Option Addr) (c5 : Nat) (w5 : World), OwnB 38 16 w w5 (.slice a5 (k + 1 + 0) c5) (k + 1 + 0) ((S.take k).flatMap kc ++ kc X ++ (S.drop k).flatMap kc) → Q .normal ⟨#[.slice (some ⟨b, o, none⟩) N cap, x1, x2, (.slice a5 (k + 1 + 0) c5), .int .i64 i, .int .i64 k, x6, x7, x8, x9, x10, x11, x12, x13, x14, x15, x16, x17, x18, x19, x20, x21, x22, x23, x24, x25, x26, x27, x28, x29, x30, x31, x32, x33, x34, x35, x36, x37, x38, x39, x40, x41, x42, x43, x44, y45, y46, y47, y48, y49, y50, y51, y52, y53, y54, y55, y56, y57, y58, y59, x60], []⟩ w5) : Code.wp Tryz.prog (sreg 9) Q ⟨#[.slice (some ⟨b, o, none⟩) N cap, x1, x2, .slice (some ⟨g, 0, none⟩) k k, .int .i64 i, .int .i64 k, x6, x7, x8, x9, x10, x11, x12, x13, x14, x15, x16, x17, x18, x19, x20, x21, x22, x23, x24, x25, x26, x27, x28, x29, x30, x31, x32, x33, x34, x35, x36, x37, x38, x39, x40, x41, x42, x43, x44, x45, x46, x47, x48, x49, x50, x51, x52, x53, x54, x55, x56, x57, x58, x59, x60], []⟩ w := by
  conv => arg 2; whnf
  have LA : Hid (((S.take k).flatMap kc).length = k * 16) := by show _ = _; rw [flat_len _ (hS.kys.take k).len, List.length_take, hSM, Nat.min_self]
  have LB : Hid (((S.drop k).flatMap kc).length = 0 * 16) := by show _ = _; rw [show S.drop k = [] from List.drop_eq_nil_of_le (by omega)]; rfl
  have S1 : Hid (∀ u, Below w.heap.size w u → Lies u (some ⟨g, 0, none⟩) ((S.take k).flatMap kc)) := fun u hb => by rw [← flat_take S k hS.kys.len]; exact (hS.lies.past hb).taken _
  have S2 : Hid (∀ u, Below w.heap.size w u → Lies u (some ⟨g, 0, none⟩) ((S.drop k).flatMap kc)) := fun u hb => by rw [show S.drop k = [] from List.drop_eq_nil_of_le (by omega)]; exact lies_empty u _ _
  have k0 : (0 : Int) ≤ (k : Int) := by omega
  clear hS hSM
  have HXA : Hid (∀ u, Below w.heap.size w u → u.rangeAt b (o + i * 16) (X.map (Value.int .u8))) := fun u hb => (atX.past hb).range hX
  have HQ : Hid _ := hQ
  have hu := Tryz.underlying38
  have hinf := info_keyl X hX
  have hxl : X.length = 16 := hX.len
  have hfold := fold_key X hX
  have i0 : (0 : Int) ≤ (i : Int) := by omega
  have i1 : (i : Int) < (N : Int) := by omega
  have HLV : Hid ((kc X).length = 1 * 16) := kc_len hX
  have HVO : Hid (∀ u ∈ kc X, u.oneCell' = true) := ints_oneCell _ _
  clear hQ hX atX
  go_region_held3 (fun u => u.rangeAt b (o + i * 16) (X.map (Value.int .u8))) (first | exact HXA.out _ HO5.out.below | exact HXA.out _ HO4.out.below | exact HXA.out _ (HO3.out.alloc _).below | exact HXA.out _ HO3.out.below | exact HXA.out _ (Below.refl _ _) | exact HXA.out _ ((Below.refl _ _).alloc (Nat.le_refl _) _) | exact HXA.out _ (((Below.refl _ _).alloc (Nat.le_refl _) _).alloc (by simp) _) | exact HXA.out _ (Below.refl _ _).drew | exact HXA.out _ ((Below.refl _ _).alloc (Nat.le_refl _) _).drew | exact HXA.out _ (((Below.refl _ _).alloc (Nat.le_refl _) _).alloc (by simp) _).drew) (first | (have hgo := HO4.out; clear hgo; refine step_own keyEl (w0 := w) rfl (.tmp 55) (.tmp 58) rfl _ (k + 1) ((S.take k).flatMap kc ++ kc X) ((S.drop k).flatMap kc) rfl HO4.out _ _ _ rfl LB.out (S2.out _ HO4.out.below) Kys.one (fun h => by cases h) (k + 1 + 0) rfl (by omega) ((S.take k).flatMap kc ++ kc X ++ (S.drop k).flatMap kc) rfl ?_; intro a5 c5 w5 h1 h2; have HO5 : Hid (OwnB 38 16 w w5 (.slice a5 (k + 1 + 0) c5) (k + 1 + 0) ((S.take k).flatMap kc ++ kc X ++ (S.drop k).flatMap kc)) := h1; clear h1 h2 HO4) | (have hgo := HX3.out; clear hgo; refine step_own keyEl (w0 := w) rfl (.tmp 49) (.tmp 54) rfl _ (k) ((S.take k).flatMap kc) (kc X) rfl HO3.out _ _ _ rfl HLV.out HX3.out HVO.out (fun h => by cases h) (k + 1) rfl (by omega) ((S.take k).flatMap kc ++ kc X) rfl ?_; intro a4 c4 w4 h1 h2; have HO4 : Hid (OwnB 38 16 w w4 (.slice a4 (k + 1) c4) (k + 1) ((S.take k).flatMap kc ++ kc X)) := h1; clear h1 h2 HO3) | (refine step_own keyEl (w0 := w) rfl (.tmp 45) (.tmp 48) rfl _ 0 [] ((S.take k).flatMap kc) rfl (own_one 38 16 w) _ _ _ rfl LA.out (S1.out _ (own_one 38 16 w).below) Kys.one (fun h => by cases h) (k) (Nat.zero_add _) (by omega) ((S.take k).flatMap kc) (List.nil_append _) ?_; intro a3 c3 w3 h1 h2; have HO3 : Hid (OwnB 38 16 w w3 (.slice a3 (k) c3) (k) ((S.take k).flatMap kc)) := h1; clear h1 h2) | (refine step_own keyEl (w0 := w) rfl (.tmp 45) (.tmp 48) rfl _ 0 [] ((S.take k).flatMap kc) rfl (own_two 38 16 w _) _ _ _ rfl LA.out (S1.out _ (own_two 38 16 w _).below) Kys.one (fun h => by cases h) (k) (Nat.zero_add _) (by omega) ((S.take k).flatMap kc) (List.nil_append _) ?_; intro a3 c3 w3 h1 h2; have HO3 : Hid (OwnB 38 16 w w3 (.slice a3 (k) c3) (k) ((S.take k).flatMap kc)) := h1; have HX3 : Hid (Lies w3 (some ⟨w.heap.size + 1, 0, none⟩) (kc X)) := (made_two w 38 38 #[] _ _ _).step (v' := .slice none 0 0) h2; clear h1 h2) | (refine step_own keyEl (w0 := w) rfl (.tmp 45) (.tmp 48) rfl _ 0 [] ((S.take k).flatMap kc) rfl (own_behind 38 16 w _) _ _ _ rfl LA.out (S1.out _ (own_behind 38 16 w _).below) Kys.one (fun h => by cases h) (k) (Nat.zero_add _) (by omega) ((S.take k).flatMap kc) (List.nil_append _) ?_; intro a3 c3 w3 h1 h2; have HO3 : Hid (OwnB 38 16 w w3 (.slice a3 (k) c3) (k) ((S.take k).flatMap kc)) := h1; have HX3 : Hid (Lies w3 (some ⟨w.heap.size, 0, none⟩) (kc X)) := (made_ahead w 38 38 #[] _ _ _).step (v' := .slice none 0 0) h2; clear h1 h2) | (have hgo := HO3.out; clear hgo; refine step_own keyEl (w0 := w) rfl (.tmp 49) (.tmp 54) rfl _ (k) ((S.take k).flatMap kc) (kc X) rfl (HO3.out.alloc _) _ _ _ rfl HLV.out (lies_made _ _ _) HVO.out (fun h => by cases h) (k + 1) rfl (by omega) ((S.take k).flatMap kc ++ kc X) rfl ?_; intro a4 c4 w4 h1 h2; have HO4 : Hid (OwnB 38 16 w w4 (.slice a4 (k + 1) c4) (k + 1) ((S.take k).flatMap kc ++ kc X)) := h1; clear h1 h2 HO3))
  all_goals exact HQ.out _ _ _ _ _ _ _ _ _ _ _ _ _ _ _ _ _ _ HO5.out
end Go.Proofs.YtileidbdmpeciaaGreat

namespace Go.Proofs.YtileidbdmpeciaaGreat
open Go.RowKit
set_option linter.unusedVariables false

/-- Where the place of a key is looked for. -/
structure Look (w u : World) (l : List (List Int)) (a : Option Addr) (v : Value) (S : List (List Int)) : Prop where
  below : Below w.heap.size w u
  src : KeysAt u a l
  mine : KeysMine u w.heap.size v S
theorem Look.past {w u u' : World} {l : List (List Int)} {a : Option Addr} {v : Value} {S : List (List Int)} (h : Look w u l a v S) (hb : Below u.heap.size u u') : Look w u' l a v S :=
  ⟨h.below.trans (hb.mono h.below.size), h.src.past hb, h.mine.past hb⟩
theorem insert_mine {w u : World} {B : Nat} {v : Value} {S : List (List Int)} {X : List Int} {k m : Nat} (hB : B ≤ w.heap.size) (h : OwnB 38 16 w u v (k + 1 + m) ((S.take k).flatMap kc ++ kc X ++ (S.drop k).flatMap kc)) (hm : k + m = S.length) (hS : Kys S) (hX : Ky X) (hi : insK X S = S.take k ++ X :: S.drop k) : KeysMine u B v (insK X S) := by
  have e : (insK X S).flatMap kc = (S.take k).flatMap kc ++ kc X ++ (S.drop k).flatMap kc := by rw [hi, List.flatMap_append, List.flatMap_cons, List.append_assoc]
  have el : (insK X S).length = k + 1 + m := by rw [hi]; simp; omega
  refine ⟨?_, fun x hx => ?_⟩
  · rw [e, el]; exact World.ownsRow.mono h.own hB
  · rcases (mem_insK X S x).1 hx with rfl | hx
    · exact hX
    · exact hS x hx
theorem Look.ins {w wq u : World} {l : List (List Int)} {a : Option Addr} {v v' : Value} {S : List (List Int)} {X : List Int} {i k m : Nat} (h : Look w wq l a v S) (ho : OwnB 38 16 wq u v' (k + 1 + m) ((S.take k).flatMap kc ++ kc X ++ (S.drop k).flatMap kc)) (hm : k + m = S.length) (hX : Ky X) (hi : insK X S = S.take k ++ X :: S.drop k) (hn : sortK (l.take (i + 1)) = insK X S) : Look w u l a v' (sortK (l.take (i + 1))) := by
  rw [hn]
  exact ⟨h.below.trans (ho.below.mono h.below.size), h.src.past ho.below, insert_mine h.below.size ho hm h.mine.kys hX hi⟩
theorem insK_pos (X : List Int) (S : List (List Int)) : 0 < (insK X S).length := by
  cases S with
  | nil => simp [insK]
  | cons a r =>
    unfold insK
    split
    · simp
    · split <;> simp
set_option maxRecDepth 8000 in
set_option maxHeartbeats 4000000 in
theorem rsort_any (a : Option Addr) (N cap : Nat) (l : List (List Int)) (w : World) (hl : l.length = N) (hN : N ≤ 1000) (hat : KeysAt w a l) :
    Calls Tryz.prog 65 #[.slice a N cap] w fun e w' => ∃ v, e = .returned v ∧ KeysMine w' w.heap.size v (sortK l) ∧ Below w.heap.size w w' := by
  have HL : Hid (l.length = N) := hl
  have HA : Hid (KeysAt w a l) := hat
  clear hl hat
  go_enter Tryz.func65, Tryz.ntmps65
  go_wp2
  go_loopw [3, 4] (fun sv iv wr => ∃ i : Nat, iv = .int .i64 i ∧ i ≤ N ∧ Hid (Look w wr l a sv (sortK (l.take i))) ∧ (i = 0 → sv = .slice none 0 0) ∧ Hid (0 < i → 0 < (sortK (l.take i)).length)) (fun _ iv _ => N - (intOf iv).toNat)
  case atStart => exact ⟨0, rfl, Nat.zero_le _, ⟨Below.refl _ _, HA.out, ⟨World.ownsRow_nil _ _ _ _, fun k hk => by simp [sortK] at hk⟩⟩, fun _ => rfl, fun h => absurd h (by omega)⟩
  case round =>
    obtain ⟨i, rfl, hi, HO, hv0, HVN⟩ := hrel
    by_cases hlt : i < N
    · have hil : i < l.length := by rw [HL.out]; exact hlt
      obtain ⟨b, o, rfl, -, hky⟩ := HA.out.key hil
      obtain ⟨b', o', hbo, hXat, -⟩ := HO.out.src.key hil
      obtain ⟨rfl, rfl⟩ : b' = b ∧ o' = o := by injection hbo with h; injection h with h1 h2; exact ⟨h1.symm, h2.symm⟩
      obtain ⟨X, hX⟩ : ∃ X, X = l.getD i [] := ⟨_, rfl⟩
      rw [← hX] at hky hXat
      have HKY : Hid (Ky X) := hky
      have HXA : Hid (∀ u, Below wr.heap.size wr u → KeyAt u b' (o' + i * 16) X) := fun u hb => hXat.past hb
      have HNX : Hid (sortK (l.take (i + 1)) = insK X (sortK (l.take i))) := by rw [hX]; exact sortK_take l i hil
      have HPOS : Hid (0 < (sortK (l.take (i + 1))).length) := by rw [HNX.out]; exact insK_pos _ _
      have HI : Hid (i < N) := hlt
      clear hX hky hil hXat hbo
      by_cases h0 : i = 0
      · have hv := hv0 h0
        subst hv
        have HE : Hid (sortK (l.take i) = []) := by rw [h0]; rfl
        clear hv0 HVN h0
        go_wp2
        go_loopw [5] (fun kv wr' => kv = .int .i64 0 ∧ wr' = wr) (fun kv _ => 0)
        case atStart => exact ⟨rfl, rfl⟩
        case round =>
          obtain ⟨rfl, rfl⟩ := hrel
          go_wp2
          go_quiet (fail)
          go_wp2
          go_quiet (fail)
          go_wp2
          generalize hwq : (wr.drewN _).drewN _ = wq
          have HB : Hid (Below wr.heap.size wr wq) := by rw [← hwq]; exact below_dN (below_dN (Below.refl _ _) _) _
          have HQ : Hid (Look w wq l (some ⟨b', o', none⟩) (.slice none 0 0) []) := by have h := HO.out.past HB.out; rw [HE.out] at h; exact h
          have HNX' : Hid (sortK (l.take (i + 1)) = insK X []) := by show _ = _; rw [HNX.out, HE.out]
          clear hwq
          refine sreg9n wq _ b' o' N cap i X HKY.out HI.out (HXA.out wq HB.out) hN ?_
          intro y45 y46 y47 y48 y49 y50 y51 y52 y53 y54 y55 y56 y57 y58 y59 a5 c5 w5 ho5
          have HNW : Hid (Look w w5 l (some ⟨b', o', none⟩) (.slice a5 (0 + 1 + 0) c5) (sortK (l.take (i + 1)))) := HQ.out.ins (k := 0) (m := 0) (S := []) ho5 rfl HKY.out rfl HNX'.out
          clear ho5
          go_wp2
          go_roundw
          case rel => exact ⟨i + 1, by go_num, HI.out, HNW, fun h => absurd h (by omega), fun _ => HPOS.out⟩
          case measure => simp [intOf]; have := HI.out; omega
      · have hpos := HVN.out (by omega)
        obtain ⟨S, hS⟩ : ∃ S, S = sortK (l.take i) := ⟨_, rfl⟩
        rw [← hS] at HO hpos HNX
        have HM1 : Hid (S.length ≤ 1000) := by
          have h1 := (sortK_facts (l.take i)).2.2
          rw [← hS] at h1
          have h2 := List.length_take_le i l
          exact Nat.le_trans (Nat.le_trans h1 h2) (by omega)
        clear hS hv0 HVN h0
        obtain ⟨g, cp, rfl, hcp, hBg, hgl, hKA⟩ := HO.out.mine.shape hpos
        have HKA : Hid (∀ u, Below wr.heap.size wr u → KeysAt u (some ⟨g, 0, none⟩) S) := fun u hb => hKA.past hb
        obtain ⟨M, hM⟩ : ∃ M, M = S.length := ⟨_, rfl⟩
        have HM : Hid (M = S.length) := hM
        rw [← hM] at hcp hpos HO HM1 ⊢
        clear hM hKA
        obtain ⟨wo, rfl⟩ : ∃ wo : World, wo = wr := ⟨wr, rfl⟩
        go_wp2
        go_loopw [5] (fun kv wr' => ∃ k : Nat, kv = .int .i64 k ∧ k ≤ M ∧ Hid (Below wo.heap.size wo wr') ∧ Hid (∀ j, j < k → lexC (S.getD j []) X < 0)) (fun kv _ => M - (intOf kv).toNat)
        case atStart => exact ⟨0, rfl, Nat.zero_le _, Below.refl _ _, fun j hj => absurd hj (by omega)⟩
        case round =>
          obtain ⟨k, rfl, hk, HBW, HJ⟩ := hrel
          have hk1 : (k : Int) ≤ 1000 := by have := HM1.out; omega
          by_cases hkl : k < M
          · have HKM : Hid (k < M) := hkl
            obtain ⟨g', o2, hgo, hYat, hYk⟩ := (HKA.out wr HBW.out).key (i := k) (by rw [← HM.out]; exact hkl)
            obtain ⟨rfl, rfl⟩ : g' = g ∧ o2 = 0 := by injection hgo with h; injection h with h1 h2; exact ⟨h1.symm, h2.symm⟩
            rw [Nat.zero_add] at hYat
            obtain ⟨Y, hY⟩ : ∃ Y, Y = S.getD k [] := ⟨_, rfl⟩
            rw [← hY] at hYat hYk
            have HY : Hid (Y = S.getD k []) := hY
            have HYK : Hid (Ky Y) := hYk
            have HYA : Hid (∀ u, Below wr.heap.size wr u → KeyAt u g' (k * 16) Y) := fun u hb => hYat.past hb
            clear hgo hYat hYk hY
            go_wp2
            refine sreg6 wr _ b' o' N cap g' M cp i k X Y HKY.out HYK.out HI.out HKM.out (HYA.out wr (Below.refl _ _)) (HXA.out wr HBW.out) hN HM1.out ?_
            intro y12 y13 y14 y15 y16 y17 y18 y19 y20 y21 y22 y23 y24 y25 y26 w5 hb5
            have H5 : Hid (Below wr.heap.size wr w5) := hb5
            have HB5 : Hid (Below wo.heap.size wo w5) := HBW.out.trans (hb5.mono HBW.out.size)
            clear hb5
            by_cases hlx : lexC Y X < 0
            · rw [decide_eq_true hlx]
              have HLX : Hid (lexC Y X < 0) := hlx
              clear hlx
              go_wp2
              go_roundw
              case rel => exact ⟨k + 1, by go_num, HKM.out, HB5, fun j hj => by
                rcases Nat.lt_or_ge j k with h' | h'
                · exact HJ.out j h'
                · obtain rfl : j = k := by omega
                  rw [← HY.out]; exact HLX.out⟩
              case measure => simp [intOf]; have := HKM.out; omega
            · rw [decide_eq_false hlx]
              have HLX : Hid (¬ lexC Y X < 0) := hlx
              clear hlx
              go_wp2
              refine sreg8 w5 _ b' o' N cap g' M cp i k X Y HKY.out HYK.out HI.out HKM.out (HYA.out w5 H5.out) (HXA.out w5 HB5.out) hN HM1.out ?_
              intro y30 y31 y32 y33 y34 y35 y36 y37 y38 y39 y40 y41 y42 y43 w6 hb6
              have HB6 : Hid (Below wo.heap.size wo w6) := HB5.out.trans (hb6.mono HB5.out.size)
              clear hb6
              by_cases hyx : Y = X
              · rw [decide_eq_true hyx]
                have HINS : Hid (insK X S = S) := insK_there X S k (by rw [← HM.out]; exact hkl) HJ.out (by rw [← HY.out]; exact hyx)
                have HNW : Hid (Look w w6 l (some ⟨b', o', none⟩) (.slice (some ⟨g', 0, none⟩) M cp) (sortK (l.take (i + 1)))) := by
                  rw [HNX.out, HINS.out]
                  exact HO.out.past HB6.out
                clear hyx
                go_wp2
                go_roundw
                case rel => exact ⟨i + 1, by go_num, HI.out, HNW, fun h => absurd h (by omega), fun _ => HPOS.out⟩
                case measure => simp [intOf]; have := HI.out; omega
              · rw [decide_eq_false hyx]
                have HINS : Hid (insK X S = S.take k ++ X :: S.drop k) := insK_split X S k (by rw [← HM.out]; omega) HJ.out (fun _ => ⟨by rw [← HY.out]; have := HLX.out; omega, by rw [← HY.out]; exact hyx⟩)
                have HQ : Hid (Look w w6 l (some ⟨b', o', none⟩) (.slice (some ⟨g', 0, none⟩) M cp) S) := HO.out.past HB6.out
                have hkc : ¬ cp = k := by omega
                clear hyx
                go_wp2
                refine sreg9a w6 _ b' o' N cap g' M cp i k S X HKY.out HI.out (HXA.out w6 HB6.out) hN HM1.out (HKA.out w6 HB6.out) HM.out.symm hk hcp hkc ?_
                intro y45 y46 y47 y48 y49 y50 y51 y52 y53 y54 y55 y56 y57 y58 y59 a5 c5 w7 ho5
                have HNW : Hid (Look w w7 l (some ⟨b', o', none⟩) (.slice a5 (k + 1 + (M - k)) c5) (sortK (l.take (i + 1)))) := HQ.out.ins ho5 (by rw [← HM.out]; omega) HKY.out HINS.out HNX.out
                clear ho5
                go_wp2
                go_roundw
                case rel => exact ⟨i + 1, by go_num, HI.out, HNW, fun h => absurd h (by omega), fun _ => HPOS.out⟩
                case measure => simp [intOf]; have := HI.out; omega
          · have hkm : k = M := by omega
            have HINS : Hid (insK X S = S.take k ++ X :: S.drop k) := insK_split X S k (by rw [← HM.out]; omega) HJ.out (fun h => absurd h (by rw [← HM.out]; omega))
            subst hkm
            have k2 : ¬ (k : Int) < (k : Int) := by omega
            go_wp2
            go_quiet (fail)
            go_wp2
            go_quiet (fail)
            go_wp2
            generalize hwq : (wr.drewN _).drewN _ = wq
            have HB6 : Hid (Below wo.heap.size wo wq) := by rw [← hwq]; exact below_dN (below_dN HBW.out _) _
            have HQ : Hid (Look w wq l (some ⟨b', o', none⟩) (.slice (some ⟨g, 0, none⟩) k cp) S) := HO.out.past HB6.out
            clear hwq
            by_cases hkc : cp = k
            · subst hkc
              refine sreg9b wq _ b' o' N cap g i cp S X HKY.out HI.out (HXA.out wq HB6.out) hN HM1.out (HKA.out wq HB6.out) HM.out.symm ?_
              intro y45 y46 y47 y48 y49 y50 y51 y52 y53 y54 y55 y56 y57 y58 y59 a5 c5 w7 ho5
              have HNW : Hid (Look w w7 l (some ⟨b', o', none⟩) (.slice a5 (cp + 1 + 0) c5) (sortK (l.take (i + 1)))) := HQ.out.ins ho5 (by rw [← HM.out]; rfl) HKY.out HINS.out HNX.out
              clear ho5
              go_wp2
              go_roundw
              case rel => exact ⟨i + 1, by go_num, HI.out, HNW, fun h => absurd h (by omega), fun _ => HPOS.out⟩
              case measure => simp [intOf]; have := HI.out; omega
            · refine sreg9a wq _ b' o' N cap g k cp i k S X HKY.out HI.out (HXA.out wq HB6.out) hN HM1.out (HKA.out wq HB6.out) HM.out.symm (Nat.le_refl _) hcp hkc ?_
              intro y45 y46 y47 y48 y49 y50 y51 y52 y53 y54 y55 y56 y57 y58 y59 a5 c5 w7 ho5
              have HNW : Hid (Look w w7 l (some ⟨b', o', none⟩) (.slice a5 (k + 1 + (k - k)) c5) (sortK (l.take (i + 1)))) := HQ.out.ins ho5 (by rw [← HM.out]; omega) HKY.out HINS.out HNX.out
              clear ho5
              go_wp2
              go_roundw
              case rel => exact ⟨i + 1, by go_num, HI.out, HNW, fun h => absurd h (by omega), fun _ => HPOS.out⟩
              case measure => simp [intOf]; have := HI.out; omega
    · obtain rfl : i = N := by omega
      have hlt2 : ¬ (i : Int) < (i : Int) := by omega
      go_wp2
      go_ret
      exact ⟨_, rfl, by have h := HO.out.mine; rw [List.take_of_length_le (by rw [HL.out]; exact Nat.le_refl _)] at h; exact h, HO.out.below⟩
end Go.Proofs.YtileidbdmpeciaaGreat

