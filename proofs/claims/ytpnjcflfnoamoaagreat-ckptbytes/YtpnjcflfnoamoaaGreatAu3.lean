/-
  Versions that are loaded, stored and answered whole.
  The last version of a key not above a stamp (hourglassref10: Store.At).
-/
import Derived.Test.YtpnjcflfnoamoaaGreatAu15
import Derived.Deep.MidRow
import Derived.Test.YtpnjcflfnoamoaaGreatRf
namespace Go.Proofs.YtpnjcflfnoamoaaGreat
open Go.RowKit
set_option linter.unusedVariables false

theorem info_ver : (Tryz.prog.info? 67).map (·.size) = some 20 := by kernel_rfl
/-- One version in memory of the call's own. -/
structure VerMine (w : World) (b o : Nat) (V : Ver) : Prop where
  at_ : VerAt w b o V
  free : ∀ i, i < 20 → w.frozen? ⟨b, o + i, none⟩ = false
  key : Ky V.k
theorem VerAt.lt {w : World} {b o : Nat} {V : Ver} (h : VerAt w b o V) (hk : Ky V.k) : b < w.heap.size := cell_lt (h.cells hk).1
theorem VerMine.made (w : World) (T : TypeId) (V : Ver) (hk : Ky V.k) : VerMine (w.alloc (.cells (encV V).toArray T)) w.heap.size 0 V :=
  ⟨⟨lies_made w (encV V).toArray T⟩, fun i hi => World.frozen?_alloc_new _ _ _ _, hk⟩
theorem VerMine.past {w w' : World} {b o : Nat} {V : Ver} (h : VerMine w b o V) (hb : Below w.heap.size w w') : VerMine w' b o V :=
  ⟨h.at_.past hb, fun i hi => by rw [hb.frozen (p := ⟨b, o + i, none⟩) (h.at_.lt h.key)]; exact h.free i hi, h.key⟩
theorem VerAt.range {w : World} {b o : Nat} {V : Ver} (h : VerAt w b o V) : w.rangeAt b o (encV V) := h.lies.range
theorem VerMine.there {w : World} {b o : Nat} {V : Ver} (h : VerMine w b o V) : w.there b o 20 := fun j hj => by
  have hl := enc_len h.key
  obtain ⟨u, hu⟩ : ∃ u, (encV V)[j]? = some u := ⟨_, List.getElem?_eq_getElem (by omega)⟩
  exact ⟨by rw [h.at_.lies.at j u hu]; rfl, h.free j hj⟩
theorem VerMine.store {w : World} {b o : Nat} {V V' : Ver} (h : VerMine w b o V) (hk : Ky V'.k) : VerMine (w.setCells b o (encV V')) b o V' := by
  have ht := h.there
  rw [← enc_len hk] at ht
  exact ⟨⟨lies_of (World.rangeAt_setCells_same w b o (encV V') ht)⟩, fun i hi => by rw [World.frozen?_setCells]; exact h.free i hi, hk⟩
theorem enc_all (V : Ver) : (encV V).toArray.all (·.oneCell') = true := all_oneCell_toArray (enc_one V)
theorem wpList_load_ver (d : Tmp) {ops : Array Oper} {rest : List Oper} {op : Oper} {a : Act} {w : World} {Q : Exit → Act → World → Prop} (hd : op.dst = some d) (hw : Region.wanted op (yielded ops a.tmps) = true) (x : Operand) (ho : op.op = .load 67 x)
    (b o : Nat) (hx : a.eval x = .pointer (some ⟨b, o, none⟩)) (V : Ver) (hk : Ky V.k) (hat : VerAt w b o V)
    (h : wpList Tryz.prog ops Q rest (a.put op.dst (vv V)) w) : wpList Tryz.prog ops Q (op :: rest) a w :=
  wpList_step fun K hK => by
    rw [if_pos hw]
    exact wp_load_mid 67 x ho b o hx (encV V) _ hat.range Tryz.underlying67 rfl (by rw [info_ver, enc_len hk]) (hK _ _ h)
def zeroV : Ver := ⟨zeroK, 0, 0, [], false⟩
theorem zeroV_ky : Ky zeroV.k := zeroK_ky
theorem zeroV_cells : (encV zeroV).toArray = #[.int .u8 0, .int .u8 0, .int .u8 0, .int .u8 0, .int .u8 0, .int .u8 0, .int .u8 0, .int .u8 0, .int .u8 0, .int .u8 0, .int .u8 0, .int .u8 0, .int .u8 0, .int .u8 0, .int .u8 0, .int .u8 0, .int .i64 0, .int .u8 0, .string ⟨#[]⟩, .bool false] := rfl
end Go.Proofs.YtpnjcflfnoamoaaGreat

namespace Go.Proofs.YtpnjcflfnoamoaaGreat
open Go.RowKit
set_option linter.unusedVariables false

/-- A key, a stamp, an empty version, each in a block of its own. -/
structure KeyStV (w u : World) (k : List Int) (t n : Int) (V : Ver) : Prop where
  key : KeyAt u w.heap.size 0 k
  s0 : u.cell? ⟨w.heap.size + 1, 0, none⟩ = some (.int .i64 t)
  s1 : u.cell? ⟨w.heap.size + 1, 1, none⟩ = some (.int .u8 n)
  ver : VerMine u (w.heap.size + 2) 0 V
  below : Below w.heap.size w u
theorem KeyStV.made (w : World) (k : List Int) (hk : Ky k) (t n : Int) (T T' T'' : TypeId) : KeyStV w (((w.alloc (.cells (kcs k) T)).alloc (.cells #[.int .i64 t, .int .u8 n] T')).alloc (.cells (encV zeroV).toArray T'')) k t n zeroV := by
  obtain ⟨u1, h1⟩ : ∃ u, u = w.alloc (.cells (kcs k) T) := ⟨_, rfl⟩
  have e1 : u1.heap.size = w.heap.size + 1 := by rw [h1]; simp
  have b1 : Below w.heap.size w u1 := by rw [h1]; exact (Below.refl _ _).alloc (Nat.le_refl _) _
  have k1 : KeyAt u1 w.heap.size 0 k := by rw [h1]; exact KeyAt.made w T k hk
  rw [← h1]
  obtain ⟨u2, h2⟩ : ∃ u, u = u1.alloc (.cells #[.int .i64 t, .int .u8 n] T') := ⟨_, rfl⟩
  have e2 : u2.heap.size = w.heap.size + 2 := by rw [h2]; simp; omega
  have b2 : Below u1.heap.size u1 u2 := by rw [h2]; exact (Below.refl _ _).alloc (Nat.le_refl _) _
  have c0 : u2.cell? ⟨w.heap.size + 1, 0, none⟩ = some (.int .i64 t) := by rw [h2, ← e1, World.cell?_alloc_new]; rfl
  have c1 : u2.cell? ⟨w.heap.size + 1, 1, none⟩ = some (.int .u8 n) := by rw [h2, ← e1, World.cell?_alloc_new]; rfl
  rw [← h2]
  have b3 : Below u2.heap.size u2 (u2.alloc (.cells (encV zeroV).toArray T'')) := (Below.refl _ _).alloc (Nat.le_refl _) _
  refine ⟨(k1.past b2).past b3, (b3.cell (p := ⟨w.heap.size + 1, 0, none⟩) (by rw [e2]; exact Nat.lt_succ_self _)).trans c0, (b3.cell (p := ⟨w.heap.size + 1, 1, none⟩) (by rw [e2]; exact Nat.lt_succ_self _)).trans c1, ?_, b1.trans ((b2.trans (b3.mono b2.size)).mono b1.size)⟩
  rw [← e2]
  exact VerMine.made u2 T'' zeroV zeroV_ky
theorem KeyStV.step {w u v : World} {k : List Int} {t n : Int} {V : Ver} (h : KeyStV w u k t n V) (hb : Below u.heap.size u v) : KeyStV w v k t n V :=
  ⟨h.key.past hb, (hb.cell (p := ⟨w.heap.size + 1, 0, none⟩) (cell_lt h.s0)).trans h.s0, (hb.cell (p := ⟨w.heap.size + 1, 1, none⟩) (cell_lt h.s1)).trans h.s1, h.ver.past hb, h.below.trans (hb.mono h.below.size)⟩
def orZero (o : Option Ver) : Ver := match o with | none => zeroV | some V => V
end Go.Proofs.YtpnjcflfnoamoaaGreat

