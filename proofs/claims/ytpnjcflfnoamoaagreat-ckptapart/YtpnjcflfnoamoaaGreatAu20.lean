/-
  What the library's own searches and comparisons answer at keys and at texts.
  What the document's own keys (hourglassref10: Good, Cmp, Text, Within, Sum, Of) answer.
  What the document's own keys of texts (hourglassref10: Of) answer.
-/
import Derived.Test.YtpnjcflfnoamoaaGreatBase
import Derived.Lib.BytesEntry
import Derived.BigRegion
import Derived.BigQuiet
import Derived.Test.YtpnjcflfnoamoaaGreatAu28
namespace Go.Proofs.YtpnjcflfnoamoaaGreat
open Go.RowKit
set_option linter.unusedVariables false

theorem byte_nat {x : Int} (hx : 0 ≤ x ∧ x ≤ 255) : x.toNat.toUInt8.toNat = x.toNat := by
  have : x.toNat < 256 := by omega
  simp [Nat.toUInt8, Nat.mod_eq_of_lt this]
theorem byte_lt {x y : Int} (hx : 0 ≤ x ∧ x ≤ 255) (hy : 0 ≤ y ∧ y ≤ 255) : x.toNat.toUInt8 < y.toNat.toUInt8 ↔ x < y := by
  rw [UInt8.lt_iff_toNat_lt, byte_nat hx, byte_nat hy]
  omega
theorem byte_zero {x : Int} (hx : 0 ≤ x ∧ x ≤ 255) : x.toNat.toUInt8 = 0 ↔ x = 0 := by
  rw [← UInt8.toNat_inj, byte_nat hx]
  show x.toNat = 0 ↔ _
  omega
theorem cmp_bytes : ∀ (a b : List Int), (∀ z ∈ a, 0 ≤ z ∧ z ≤ 255) → (∀ z ∈ b, 0 ≤ z ∧ z ≤ 255) → Lib.compareBytes (Lib.bytesOf a) (Lib.bytesOf b) = lexC a b
  | [], [], _, _ => rfl
  | [], _ :: _, _, _ => rfl
  | _ :: _, [], _, _ => rfl
  | a :: r, b :: s, ha, hb => by
    have ih := cmp_bytes r s (fun z hz => ha z (by simp [hz])) (fun z hz => hb z (by simp [hz]))
    have h1 := byte_lt (ha a (by simp)) (hb b (by simp))
    have h2 := byte_lt (hb b (by simp)) (ha a (by simp))
    unfold Lib.bytesOf at ih ⊢
    rw [List.map_cons, List.map_cons]
    unfold Lib.compareBytes lexC
    rw [ih]
    simp only [h1, h2]
theorem idx_zero : ∀ (k : List Int), (∀ z ∈ k, 0 ≤ z ∧ z ≤ 255) → Lib.indexByte (Lib.bytesOf k) 0 = if (txK k).length < k.length then ((txK k).length : Int) else -1
  | [], _ => rfl
  | a :: r, h => by
    have ih := idx_zero r (fun z hz => h z (by simp [hz]))
    have h0 := byte_zero (h a (by simp))
    unfold Lib.bytesOf at ih ⊢
    rw [List.map_cons]
    unfold Lib.indexByte
    rw [ih]
    unfold txK
    rw [List.takeWhile_cons]
    by_cases e : a = 0
    · subst e; simp
    · have e1 : ¬ a.toNat.toUInt8 = 0 := fun x => e (h0.1 x)
      have e2 : (a.toNat.toUInt8 == 0) = false := beq_eq_false_iff_ne.2 e1
      have e3 : (a != 0) = true := bne_iff_ne.2 e
      rw [e2, if_pos e3]
      simp only [Bool.false_eq_true, if_false, List.length_cons]
      generalize (r.takeWhile fun z => z != 0).length = n
      by_cases hl : n < r.length
      · rw [if_pos hl, if_pos (show n + 1 < r.length + 1 by omega), beq_eq_false_iff_ne.2 (show (n : Int) ≠ -1 by omega)]
        simp
      · rw [if_neg hl, if_neg (show ¬ n + 1 < r.length + 1 by omega)]
        rfl
/-- Two keys' bytes, as the library reads them. -/
theorem KeyAt.bytes {w : World} {b : Nat} {k : List Int} (h : KeyAt w b 0 k) (hk : Ky k) (acc : ByteArray) : (Extern.Bytes.loadBytes ⟨b, 0, none⟩ 16 acc).run Tryz.prog w = .ok ⟨acc.data ++ (Lib.bytesOf k).toArray⟩ w := by
  have hl := Lib.run_loadBytesX (P := Tryz.prog) w k ⟨b, 0, none⟩ acc (fun j x hj => by
    have hjl : j < k.length := (List.getElem?_eq_some_iff.1 hj).1
    have e : (⟨b, 0, none⟩ : Addr).add j = ⟨b, j, none⟩ := by unfold Addr.add; split <;> simp_all
    rw [e, h.cell0 j (by rw [← hk.len]; exact hjl), List.getD_eq_getElem?_getD, hj]
    rfl)
  rw [hk.len] at hl
  exact hl
theorem run_cmpKeys (w : World) (p q : Nat) (a b : List Int) (ha : Ky a) (hb : Ky b) (h1 : KeyAt w p 0 a) (h2 : KeyAt w q 0 b) :
    (Extern.BytealgCompare.compare #[.slice (some ⟨p, 0, none⟩) 16 16, .slice (some ⟨q, 0, none⟩) 16 16]).run Tryz.prog w = .ok (.int .i64 (lexC a b)) w := by
  have e1 := h1.bytes ha .empty
  have e2 := h2.bytes hb .empty
  have hs := Lib.run_compareString (P := Tryz.prog) ⟨(Lib.bytesOf a).toArray⟩ ⟨(Lib.bytesOf b).toArray⟩ w
  have he : ∀ l : List Int, (⟨ByteArray.empty.data ++ (Lib.bytesOf l).toArray⟩ : ByteArray) = ⟨(Lib.bytesOf l).toArray⟩ := fun l => by
    apply ByteArray.ext
    show (#[] : Array UInt8) ++ (Lib.bytesOf l).toArray = (Lib.bytesOf l).toArray
    simp
  rw [he] at e1 e2
  change Sem.run Tryz.prog (do pure (goInt (Extern.BytealgCompare.cmp (← Extern.Bytes.bytesOf (.slice (some ⟨p, 0, none⟩) 16 16)) (← Extern.Bytes.bytesOf (.slice (some ⟨q, 0, none⟩) 16 16))))) w = _
  simp only [Extern.Bytes.bytesOf, Sem.run_bind, Sem.run_pure, e1, e2, Result.andThen]
  rw [Lib.cmp_eq]
  simp only [goInt]
  rw [← cmp_bytes a b ha.bytes hb.bytes]
set_option maxRecDepth 100000 in
theorem compare_any (w : World) (p q : Nat) (a b : List Int) (ha : Ky a) (hb : Ky b) (h1 : KeyAt w p 0 a) (h2 : KeyAt w q 0 b) :
    Calls Tryz.prog 89 #[.slice (some ⟨p, 0, none⟩) 16 16, .slice (some ⟨q, 0, none⟩) 16 16] w fun e w' => e = .returned (.int .i64 (lexC a b)) ∧ w' = w := by
  have hx := run_cmpKeys w p q a b ha hb h1 h2
  go_enter Tryz.func89, Tryz.ntmps89
  go_wp2
  rw [run_callFunc_extern Tryz.func106 (by kernel_rfl) (by kernel_rfl) (by kernel_rfl) (e := Extern.BytealgCompare.compare) (by kernel_rfl), hx]
  simp only [Result.andThen]
  rw [Oper.upon_value]
  go_wp2
  go_ret
  exact ⟨rfl, rfl⟩
set_option maxRecDepth 100000 in
theorem bindex_any (w : World) (p : Nat) (k : List Int) (hk : Ky k) (h : KeyAt w p 0 k) :
    Calls Tryz.prog 132 #[.slice (some ⟨p, 0, none⟩) 16 16, .int .u8 0] w fun e w' => e = .returned (.int .i64 (if (txK k).length < 16 then ((txK k).length : Int) else -1)) ∧ w' = w := by
  have hx := Lib.run_indexByteSlice (P := Tryz.prog) w p 0 16 16 k hk.len (fun i hi => h.cell i hi) 0
  have hi := idx_zero k hk.bytes
  rw [hk.len] at hi
  rw [show (0 : Int).toNat.toUInt8 = 0 from rfl, hi] at hx
  generalize (if (txK k).length < 16 then ((txK k).length : Int) else -1) = Z at hx ⊢
  go_enter Tryz.func132, Tryz.ntmps132
  go_wp2
  rw [run_callFunc_extern Tryz.func141 (by kernel_rfl) (by kernel_rfl) (by kernel_rfl) (e := Extern.BytealgIndexByte.indexByte) (by kernel_rfl), hx]
  simp only [Result.andThen]
  rw [Oper.upon_value]
  go_wp2
  go_ret
  exact ⟨rfl, rfl⟩
end Go.Proofs.YtpnjcflfnoamoaaGreat

namespace Go.Proofs.YtpnjcflfnoamoaaGreat
open Go.RowKit
set_option linter.unusedVariables false

/-- Three keys, each in a block of its own. -/
structure Three3 (w u : World) (k a b : List Int) : Prop where
  below : Below w.heap.size w u
  k : KeyAt u w.heap.size 0 k
  a : KeyAt u (w.heap.size + 1) 0 a
  b : KeyAt u (w.heap.size + 2) 0 b
theorem Three3.made (w : World) (T : TypeId) {k a b : List Int} (hk : Ky k) (ha : Ky a) (hb : Ky b) : Three3 w (((w.alloc (.cells (kcs k) T)).alloc (.cells (kcs a) T)).alloc (.cells (kcs b) T)) k a b := by
  have e1 := KeyAt.made w T k hk
  have e2 := KeyAt.made (w.alloc (.cells (kcs k) T)) T a ha
  have e3 := KeyAt.made ((w.alloc (.cells (kcs k) T)).alloc (.cells (kcs a) T)) T b hb
  rw [World.size_alloc] at e2
  rw [World.size_alloc, World.size_alloc] at e3
  exact ⟨(((Below.refl _ _).alloc (Nat.le_refl _) _).alloc (by simp) _).alloc (by simp; omega) _, (e1.alloc _).alloc _, e2.alloc _, e3⟩
theorem Three3.past {w u v : World} {k a b : List Int} (h : Three3 w u k a b) (hb : Below u.heap.size u v) : Three3 w v k a b :=
  ⟨h.below.trans (hb.mono h.below.size), h.k.past hb, h.a.past hb, h.b.past hb⟩
end Go.Proofs.YtpnjcflfnoamoaaGreat

namespace Go.Proofs.YtpnjcflfnoamoaaGreat
open Go.RowKit
set_option linter.unusedVariables false

/-- What Of's rounds hold: what is answered, what is made. -/
structure OfR (w u : World) (K : List Int) : Prop where
  below : Below w.heap.size w u
  res : KeyMine u w.heap.size 0 zeroK
  key : KeyMine u (w.heap.size + 1) 0 K
theorem zero_cells : (kcs zeroK) = #[.int .u8 0, .int .u8 0, .int .u8 0, .int .u8 0, .int .u8 0, .int .u8 0, .int .u8 0, .int .u8 0, .int .u8 0, .int .u8 0, .int .u8 0, .int .u8 0, .int .u8 0, .int .u8 0, .int .u8 0, .int .u8 0] := rfl
theorem OfR.made (w : World) (T : TypeId) : OfR w ((w.alloc (.cells (kcs zeroK) T)).alloc (.cells (kcs zeroK) T)) zeroK := by
  have e1 := KeyMine.made w T zeroK zeroK_ky
  have e2 := KeyMine.made (w.alloc (.cells (kcs zeroK) T)) T zeroK zeroK_ky
  rw [World.size_alloc] at e2
  exact ⟨((Below.refl _ _).alloc (Nat.le_refl _) _).alloc (by simp) _, e1.alloc _, e2⟩
theorem OfR.store {w u : World} {K : List Int} (h : OfR w u K) {k : List Int} (hk : Ky k) : OfR w (u.setCells (w.heap.size + 1) 0 (k.map (Value.int .u8))) k :=
  ⟨below_cells (by omega) h.below, h.res.other (by omega), h.key.store hk⟩
theorem OfR.set {w u : World} {K : List Int} (h : OfR w u K) (n : Nat) (z : Int) (hn : n < 16) (h0 : 0 ≤ z) (h1 : z ≤ 255) : OfR w (u.setCell ⟨w.heap.size + 1, n, none⟩ (.int .u8 z)) (K.set n z) :=
  ⟨h.below.setCell (by show w.heap.size ≤ w.heap.size + 1; omega) _, h.res.aside (by show w.heap.size ≠ w.heap.size + 1; omega), h.key.set n z hn h0 h1⟩
/-- What is answered is laid. -/
structure OfD (w u : World) (K : List Int) : Prop where
  below : Below w.heap.size w u
  lies : KeyAt u w.heap.size 0 K
  ky : Ky K
theorem OfR.done {w u : World} {K : List Int} (h : OfR w u K) {k : List Int} (hk : Ky k) : OfD w (u.setCells w.heap.size 0 (k.map (Value.int .u8))) k :=
  ⟨below_cells (Nat.le_refl _) h.below, (h.res.store hk).lies, hk⟩
end Go.Proofs.YtpnjcflfnoamoaaGreat

