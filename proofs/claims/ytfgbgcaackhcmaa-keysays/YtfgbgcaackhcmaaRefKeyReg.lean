/-
  The regions of the document's own Sort (hourglassref10) that draw their order, each by itself.
-/
import Derived.Test.YtfgbgcaackhcmaaKeyList
import Derived.Test.YtfgbgcaackhcmaaRefKey
import Derived.BigRegion
import Derived.Deep.Onto
import Derived.Deep.RegionHeld3
namespace Go.Proofs.Ytfgbgcaackhcmaa
open Go.RowKit
set_option linter.unusedVariables false

/-- A region of a body, by its number. -/
def findRegion (n : Nat) : Code → Option Code
  | .region id ops b => if id = n then some (.region id ops b) else none
  | .seq a b => match findRegion n a with
    | some c => some c
    | none => findRegion n b
  | .block _ c => findRegion n c
  | .scope c => findRegion n c
  | .cond _ a b => match findRegion n a with
    | some c => some c
    | none => findRegion n b
  | .loop c => findRegion n c
  | _ => none
noncomputable def sreg (n : Nat) : Code := (Try.f24.body.bind (findRegion n)).getD .skip
def op20 (p : String) : Oper := { dst := some 20, op := Op.load 24 (Operand.tmp 19), type := 24, pos := p, after := #[{ on := 7, ground := Ground.data }, { on := 4, ground := Ground.guard }], guard := some (4, true) }
def op38 (p : String) : Oper := { dst := some 38, op := Op.load 24 (Operand.tmp 37), type := 24, pos := p, after := #[{ on := 7, ground := Ground.data }, { on := 4, ground := Ground.guard }], guard := some (4, true) }
theorem hop20 (p : String) : op20 p = { dst := some 20, op := Op.load 24 (Operand.tmp 19), type := 24, pos := p, after := #[{ on := 7, ground := Ground.data }, { on := 4, ground := Ground.guard }], guard := some (4, true) } := rfl
theorem hop38 (p : String) : op38 p = { dst := some 38, op := Op.load 24 (Operand.tmp 37), type := 24, pos := p, after := #[{ on := 7, ground := Ground.data }, { on := 4, ground := Ground.guard }], guard := some (4, true) } := rfl
theorem gd20 (p : String) : (op20 p).guard = some (4, true) := rfl
theorem gd38 (p : String) : (op38 p).guard = some (4, true) := rfl
theorem sixteen {k : List Int} (h : Ky k) : ∃ z0 z1 z2 z3 z4 z5 z6 z7 z8 z9 z10 z11 z12 z13 z14 z15, k = [z0, z1, z2, z3, z4, z5, z6, z7, z8, z9, z10, z11, z12, z13, z14, z15] := by
  have hl := h.len
  match k, hl with
  | [z0, z1, z2, z3, z4, z5, z6, z7, z8, z9, z10, z11, z12, z13, z14, z15], _ => exact ⟨z0, z1, z2, z3, z4, z5, z6, z7, z8, z9, z10, z11, z12, z13, z14, z15, rfl⟩
theorem dd20 (p : String) : (op20 p).dst = some 20 := rfl
theorem dd38 (p : String) : (op38 p).dst = some 38 := rfl
theorem oo20 (p : String) : (op20 p).op = Op.load 24 (Operand.tmp 19) := rfl
theorem oo38 (p : String) : (op38 p).op = Op.load 24 (Operand.tmp 37) := rfl
set_option maxRecDepth 8000 in
set_option maxHeartbeats 4000000 in
theorem sreg6 (w : World) (Q : Exit → Act → World → Prop) (b o N cap g M cp i k : Nat) (X Y : List Int) {x1 x2 x6 x7 x8 x9 x10 x11 x12 x13 x14 x15 x16 x17 x18 x19 x20 x21 x22 x23 x24 x25 x26 x27 x28 x29 x30 x31 x32 x33 x34 x35 x36 x37 x38 x39 x40 x41 x42 x43 x44 x45 x46 x47 x48 x49 x50 x51 x52 x53 x54 x55 x56 x57 x58 x59 x60 : Value} (hX : Ky X) (hY : Ky Y) (hi : i < N) (hk : k < M) (atY : KeyAt w g (k * 16) Y) (atX : KeyAt w b (o + i * 16) X) (hN : N ≤ 1000) (hM : M ≤ 1000)
    (hQ : ∀ (y12 y13 y14 y15 y16 y17 y18 y19 y20 y21 y22 y23 y24 y25 y26 : Value) (w5 : World), Below w.heap.size w w5 → Q .normal ⟨#[.slice (some ⟨b, o, none⟩) N cap, x1, x2, .slice (some ⟨g, 0, none⟩) M cp, .int .i64 i, .int .i64 k, x6, x7, x8, x9, x10, x11, y12, y13, y14, y15, y16, y17, y18, y19, y20, y21, y22, y23, y24, y25, y26, .bool (decide (lexC Y X < 0)), x28, x29, x30, x31, x32, x33, x34, x35, x36, x37, x38, x39, x40, x41, x42, x43, x44, x45, x46, x47, x48, x49, x50, x51, x52, x53, x54, x55, x56, x57, x58, x59, x60], []⟩ w5) : Code.wp Try.prog (sreg 6) Q ⟨#[.slice (some ⟨b, o, none⟩) N cap, x1, x2, .slice (some ⟨g, 0, none⟩) M cp, .int .i64 i, .int .i64 k, x6, x7, x8, x9, x10, x11, x12, x13, x14, x15, x16, x17, x18, x19, x20, x21, x22, x23, x24, x25, x26, x27, x28, x29, x30, x31, x32, x33, x34, x35, x36, x37, x38, x39, x40, x41, x42, x43, x44, x45, x46, x47, x48, x49, x50, x51, x52, x53, x54, x55, x56, x57, x58, x59, x60], []⟩ w := by
  conv => arg 2; whnf
  obtain ⟨z0, z1, z2, z3, z4, z5, z6, z7, z8, z9, z10, z11, z12, z13, z14, z15, rfl⟩ := sixteen hY
  have c0 : w.cell? ⟨g, k * 16, none⟩ = some (.int .u8 z0) := atY.cell 0 (by omega)
  have c1 : w.cell? ⟨g, k * 16 + 1, none⟩ = some (.int .u8 z1) := atY.cell 1 (by omega)
  have c2 : w.cell? ⟨g, k * 16 + 2, none⟩ = some (.int .u8 z2) := atY.cell 2 (by omega)
  have c3 : w.cell? ⟨g, k * 16 + 3, none⟩ = some (.int .u8 z3) := atY.cell 3 (by omega)
  have c4 : w.cell? ⟨g, k * 16 + 4, none⟩ = some (.int .u8 z4) := atY.cell 4 (by omega)
  have c5 : w.cell? ⟨g, k * 16 + 5, none⟩ = some (.int .u8 z5) := atY.cell 5 (by omega)
  have c6 : w.cell? ⟨g, k * 16 + 6, none⟩ = some (.int .u8 z6) := atY.cell 6 (by omega)
  have c7 : w.cell? ⟨g, k * 16 + 7, none⟩ = some (.int .u8 z7) := atY.cell 7 (by omega)
  have c8 : w.cell? ⟨g, k * 16 + 8, none⟩ = some (.int .u8 z8) := atY.cell 8 (by omega)
  have c9 : w.cell? ⟨g, k * 16 + 9, none⟩ = some (.int .u8 z9) := atY.cell 9 (by omega)
  have c10 : w.cell? ⟨g, k * 16 + 10, none⟩ = some (.int .u8 z10) := atY.cell 10 (by omega)
  have c11 : w.cell? ⟨g, k * 16 + 11, none⟩ = some (.int .u8 z11) := atY.cell 11 (by omega)
  have c12 : w.cell? ⟨g, k * 16 + 12, none⟩ = some (.int .u8 z12) := atY.cell 12 (by omega)
  have c13 : w.cell? ⟨g, k * 16 + 13, none⟩ = some (.int .u8 z13) := atY.cell 13 (by omega)
  have c14 : w.cell? ⟨g, k * 16 + 14, none⟩ = some (.int .u8 z14) := atY.cell 14 (by omega)
  have c15 : w.cell? ⟨g, k * 16 + 15, none⟩ = some (.int .u8 z15) := atY.cell 15 (by omega)
  have d20 := dd20
  have d38 := dd38
  have o20 := oo20
  have o38 := oo38
  have KS : Hid (∀ u, Below w.heap.size w u → u.rangeAt b (o + i * 16) (X.map (Value.int .u8))) := fun u hb => (atX.past hb).range hX
  have HQ : Hid _ := hQ
  have HX : Hid (Ky X) := hX
  have hu := Try.underlying24
  have hinf := info_keyl X hX
  have i0 : (0 : Int) ≤ (i : Int) := by omega
  have i1 : (i : Int) < (N : Int) := by omega
  have k0 : (0 : Int) ≤ (k : Int) := by omega
  have k1 : (k : Int) < (M : Int) := by omega
  have g20 := gd20
  have g38 := gd38
  obtain ⟨L, hL⟩ : ∃ L, L = lexC [z0, z1, z2, z3, z4, z5, z6, z7, z8, z9, z10, z11, z12, z13, z14, z15] X := ⟨_, rfl⟩
  have C1 : Hid (∀ u, Calls Try.prog 19 #[.agg #[.int .u8 z0, .int .u8 z1, .int .u8 z2, .int .u8 z3, .int .u8 z4, .int .u8 z5, .int .u8 z6, .int .u8 z7, .int .u8 z8, .int .u8 z9, .int .u8 z10, .int .u8 z11, .int .u8 z12, .int .u8 z13, .int .u8 z14, .int .u8 z15], kv X] u fun e w' => e = .returned (.int .i64 L) ∧ Below u.heap.size u w') := fun u => by rw [hL]; exact rcmp_any _ X hY hX u
  rw [← hL] at HQ
  clear hQ hX hY atX atY hL
  rw [← hop20]
  go_region_held3 (fun u => u.rangeAt b (o + i * 16) (X.map (Value.int .u8))) (first | exact KS.out _ H5.out | exact KS.out _ (Below.refl _ _) | exact KS.out _ (Below.refl _ _).drew) ((go_at_call 19; refine (C1.out _).mono ?_; rintro e w5 ⟨rfl, hb5⟩; have H5 : Hid (Below w.heap.size w w5) := (Below.refl w.heap.size w).drew.trans hb5; clear hb5))
  exact HQ.out _ _ _ _ _ _ _ _ _ _ _ _ _ _ _ _ H5.out
set_option maxRecDepth 8000 in
set_option maxHeartbeats 4000000 in
theorem sreg8 (w : World) (Q : Exit → Act → World → Prop) (b o N cap g M cp i k : Nat) (X Y : List Int) {x1 x2 x6 x7 x8 x9 x10 x11 x12 x13 x14 x15 x16 x17 x18 x19 x20 x21 x22 x23 x24 x25 x26 x27 x28 x29 x30 x31 x32 x33 x34 x35 x36 x37 x38 x39 x40 x41 x42 x43 x44 x45 x46 x47 x48 x49 x50 x51 x52 x53 x54 x55 x56 x57 x58 x59 x60 : Value} (hX : Ky X) (hY : Ky Y) (hi : i < N) (hk : k < M) (atY : KeyAt w g (k * 16) Y) (atX : KeyAt w b (o + i * 16) X) (hN : N ≤ 1000) (hM : M ≤ 1000)
    (hQ : ∀ (y30 y31 y32 y33 y34 y35 y36 y37 y38 y39 y40 y41 y42 y43 : Value) (w5 : World), Below w.heap.size w w5 → Q .normal ⟨#[.slice (some ⟨b, o, none⟩) N cap, x1, x2, .slice (some ⟨g, 0, none⟩) M cp, .int .i64 i, .int .i64 k, x6, x7, x8, x9, x10, x11, x12, x13, x14, x15, x16, x17, x18, x19, x20, x21, x22, x23, x24, x25, x26, x27, x28, x29, y30, y31, y32, y33, y34, y35, y36, y37, y38, y39, y40, y41, y42, y43, .bool (decide (Y = X)), x45, x46, x47, x48, x49, x50, x51, x52, x53, x54, x55, x56, x57, x58, x59, x60], []⟩ w5) : Code.wp Try.prog (sreg 8) Q ⟨#[.slice (some ⟨b, o, none⟩) N cap, x1, x2, .slice (some ⟨g, 0, none⟩) M cp, .int .i64 i, .int .i64 k, x6, x7, x8, x9, x10, x11, x12, x13, x14, x15, x16, x17, x18, x19, x20, x21, x22, x23, x24, x25, x26, x27, x28, x29, x30, x31, x32, x33, x34, x35, x36, x37, x38, x39, x40, x41, x42, x43, x44, x45, x46, x47, x48, x49, x50, x51, x52, x53, x54, x55, x56, x57, x58, x59, x60], []⟩ w := by
  conv => arg 2; whnf
  obtain ⟨z0, z1, z2, z3, z4, z5, z6, z7, z8, z9, z10, z11, z12, z13, z14, z15, rfl⟩ := sixteen hY
  have c0 : w.cell? ⟨g, k * 16, none⟩ = some (.int .u8 z0) := atY.cell 0 (by omega)
  have c1 : w.cell? ⟨g, k * 16 + 1, none⟩ = some (.int .u8 z1) := atY.cell 1 (by omega)
  have c2 : w.cell? ⟨g, k * 16 + 2, none⟩ = some (.int .u8 z2) := atY.cell 2 (by omega)
  have c3 : w.cell? ⟨g, k * 16 + 3, none⟩ = some (.int .u8 z3) := atY.cell 3 (by omega)
  have c4 : w.cell? ⟨g, k * 16 + 4, none⟩ = some (.int .u8 z4) := atY.cell 4 (by omega)
  have c5 : w.cell? ⟨g, k * 16 + 5, none⟩ = some (.int .u8 z5) := atY.cell 5 (by omega)
  have c6 : w.cell? ⟨g, k * 16 + 6, none⟩ = some (.int .u8 z6) := atY.cell 6 (by omega)
  have c7 : w.cell? ⟨g, k * 16 + 7, none⟩ = some (.int .u8 z7) := atY.cell 7 (by omega)
  have c8 : w.cell? ⟨g, k * 16 + 8, none⟩ = some (.int .u8 z8) := atY.cell 8 (by omega)
  have c9 : w.cell? ⟨g, k * 16 + 9, none⟩ = some (.int .u8 z9) := atY.cell 9 (by omega)
  have c10 : w.cell? ⟨g, k * 16 + 10, none⟩ = some (.int .u8 z10) := atY.cell 10 (by omega)
  have c11 : w.cell? ⟨g, k * 16 + 11, none⟩ = some (.int .u8 z11) := atY.cell 11 (by omega)
  have c12 : w.cell? ⟨g, k * 16 + 12, none⟩ = some (.int .u8 z12) := atY.cell 12 (by omega)
  have c13 : w.cell? ⟨g, k * 16 + 13, none⟩ = some (.int .u8 z13) := atY.cell 13 (by omega)
  have c14 : w.cell? ⟨g, k * 16 + 14, none⟩ = some (.int .u8 z14) := atY.cell 14 (by omega)
  have c15 : w.cell? ⟨g, k * 16 + 15, none⟩ = some (.int .u8 z15) := atY.cell 15 (by omega)
  have d20 := dd20
  have d38 := dd38
  have o20 := oo20
  have o38 := oo38
  have KS : Hid (∀ u, Below w.heap.size w u → u.rangeAt b (o + i * 16) (X.map (Value.int .u8))) := fun u hb => (atX.past hb).range hX
  have HQ : Hid _ := hQ
  have HX : Hid (Ky X) := hX
  have hu := Try.underlying24
  have hinf := info_keyl X hX
  have i0 : (0 : Int) ≤ (i : Int) := by omega
  have i1 : (i : Int) < (N : Int) := by omega
  have k0 : (0 : Int) ≤ (k : Int) := by omega
  have k1 : (k : Int) < (M : Int) := by omega
  have g20 := gd20
  have g38 := gd38
  have hq : ∀ u, (Op.equalIn 10000 24 (.agg #[.int .u8 z0, .int .u8 z1, .int .u8 z2, .int .u8 z3, .int .u8 z4, .int .u8 z5, .int .u8 z6, .int .u8 z7, .int .u8 z8, .int .u8 z9, .int .u8 z10, .int .u8 z11, .int .u8 z12, .int .u8 z13, .int .u8 z14, .int .u8 z15]) (kv X)).run Try.prog u = .ok (decide ([z0, z1, z2, z3, z4, z5, z6, z7, z8, z9, z10, z11, z12, z13, z14, z15] = X)) u := fun u => eq_key u [z0, z1, z2, z3, z4, z5, z6, z7, z8, z9, z10, z11, z12, z13, z14, z15] X hY hX
  clear hQ hX hY atX atY
  rw [← hop38]
  go_region_held3 (fun u => u.rangeAt b (o + i * 16) (X.map (Value.int .u8))) (first | exact KS.out _ (Below.refl _ _) | exact KS.out _ (Below.refl _ _).drew) (fail)
  exact HQ.out _ _ _ _ _ _ _ _ _ _ _ _ _ _ _ (Below.refl _ _).drew
end Go.Proofs.Ytfgbgcaackhcmaa
