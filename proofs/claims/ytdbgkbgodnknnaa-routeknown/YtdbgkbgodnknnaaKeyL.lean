/-
  What the library's own searches and comparisons answer at keys and at texts.
-/
import Derived.Test.YtdbgkbgodnknnaaKeyMem
import Derived.Lib.BytesEntry
import Derived.BigRegion
import Derived.BigQuiet
namespace Go.Proofs.Ytdbgkbgodnknnaa
open Go.RowKit
set_option linter.unusedVariables false

theorem byte_nat {x : Int} (hx : 0 ≤ x ∧ x ≤ 255) : x.toNat.toUInt8.toNat = x.toNat := by
  have : x.toNat < 256 := by omega
  simp [Nat.toUInt8, Nat.mod_eq_of_lt this]
theorem byte_lt {x y : Int} (hx : 0 ≤ x ∧ x ≤ 255) (hy : 0 ≤ y ∧ y ≤ 255) : x.toNat.toUInt8 < y.toNat.toUInt8 ↔ x < y := by
  rw [UInt8.lt_iff_toNat_lt, byte_nat hx, byte_nat hy]
  omega
theorem byte_zero {x : Int} (hx : 0 ≤ x ∧ x ≤ 255) : x.toNat.toUInt8 = 0 ↔ x = 0 := by
  rw [← UInt8.toNat_inj, byte_nat hx]
  show x.toNat = 0 ↔ _
  omega
theorem cmp_bytes : ∀ (a b : List Int), (∀ z ∈ a, 0 ≤ z ∧ z ≤ 255) → (∀ z ∈ b, 0 ≤ z ∧ z ≤ 255) → Lib.compareBytes (Lib.bytesOf a) (Lib.bytesOf b) = lexC a b
  | [], [], _, _ => rfl
  | [], _ :: _, _, _ => rfl
  | _ :: _, [], _, _ => rfl
  | a :: r, b :: s, ha, hb => by
    have ih := cmp_bytes r s (fun z hz => ha z (by simp [hz])) (fun z hz => hb z (by simp [hz]))
    have h1 := byte_lt (ha a (by simp)) (hb b (by simp))
    have h2 := byte_lt (hb b (by simp)) (ha a (by simp))
    unfold Lib.bytesOf at ih ⊢
    rw [List.map_cons, List.map_cons]
    unfold Lib.compareBytes lexC
    rw [ih]
    simp only [h1, h2]
theorem idx_zero : ∀ (k : List Int), (∀ z ∈ k, 0 ≤ z ∧ z ≤ 255) → Lib.indexByte (Lib.bytesOf k) 0 = if (txK k).length < k.length then ((txK k).length : Int) else -1
  | [], _ => rfl
  | a :: r, h => by
    have ih := idx_zero r (fun z hz => h z (by simp [hz]))
    have h0 := byte_zero (h a (by simp))
    unfold Lib.bytesOf at ih ⊢
    rw [List.map_cons]
    unfold Lib.indexByte
    rw [ih]
    unfold txK
    rw [List.takeWhile_cons]
    by_cases e : a = 0
    · subst e; simp
    · have e1 : ¬ a.toNat.toUInt8 = 0 := fun x => e (h0.1 x)
      have e2 : (a.toNat.toUInt8 == 0) = false := beq_eq_false_iff_ne.2 e1
      have e3 : (a != 0) = true := bne_iff_ne.2 e
      rw [e2, if_pos e3]
      simp only [Bool.false_eq_true, if_false, List.length_cons]
      generalize (r.takeWhile fun z => z != 0).length = n
      by_cases hl : n < r.length
      · rw [if_pos hl, if_pos (show n + 1 < r.length + 1 by omega), beq_eq_false_iff_ne.2 (show (n : Int) ≠ -1 by omega)]
        simp
      · rw [if_neg hl, if_neg (show ¬ n + 1 < r.length + 1 by omega)]
        rfl
/-- Two keys' bytes, as the library reads them. -/
theorem KeyAt.bytes {w : World} {b : Nat} {k : List Int} (h : KeyAt w b 0 k) (hk : Ky k) (acc : ByteArray) : (Extern.Bytes.loadBytes ⟨b, 0, none⟩ 16 acc).run Try.prog w = .ok ⟨acc.data ++ (Lib.bytesOf k).toArray⟩ w := by
  have hl := Lib.run_loadBytesX (P := Try.prog) w k ⟨b, 0, none⟩ acc (fun j x hj => by
    have hjl : j < k.length := (List.getElem?_eq_some_iff.1 hj).1
    have e : (⟨b, 0, none⟩ : Addr).add j = ⟨b, j, none⟩ := by unfold Addr.add; split <;> simp_all
    rw [e, h.cell0 j (by rw [← hk.len]; exact hjl), List.getD_eq_getElem?_getD, hj]
    rfl)
  rw [hk.len] at hl
  exact hl
theorem run_cmpKeys (w : World) (p q : Nat) (a b : List Int) (ha : Ky a) (hb : Ky b) (h1 : KeyAt w p 0 a) (h2 : KeyAt w q 0 b) :
    (Extern.BytealgCompare.compare #[.slice (some ⟨p, 0, none⟩) 16 16, .slice (some ⟨q, 0, none⟩) 16 16]).run Try.prog w = .ok (.int .i64 (lexC a b)) w := by
  have e1 := h1.bytes ha .empty
  have e2 := h2.bytes hb .empty
  have hs := Lib.run_compareString (P := Try.prog) ⟨(Lib.bytesOf a).toArray⟩ ⟨(Lib.bytesOf b).toArray⟩ w
  have he : ∀ l : List Int, (⟨ByteArray.empty.data ++ (Lib.bytesOf l).toArray⟩ : ByteArray) = ⟨(Lib.bytesOf l).toArray⟩ := fun l => by
    apply ByteArray.ext
    show (#[] : Array UInt8) ++ (Lib.bytesOf l).toArray = (Lib.bytesOf l).toArray
    simp
  rw [he] at e1 e2
  change Sem.run Try.prog (do pure (goInt (Extern.BytealgCompare.cmp (← Extern.Bytes.bytesOf (.slice (some ⟨p, 0, none⟩) 16 16)) (← Extern.Bytes.bytesOf (.slice (some ⟨q, 0, none⟩) 16 16))))) w = _
  simp only [Extern.Bytes.bytesOf, Sem.run_bind, Sem.run_pure, e1, e2, Result.andThen]
  rw [Lib.cmp_eq]
  simp only [goInt]
  rw [← cmp_bytes a b ha.bytes hb.bytes]
set_option maxRecDepth 100000 in
theorem compare_any (w : World) (p q : Nat) (a b : List Int) (ha : Ky a) (hb : Ky b) (h1 : KeyAt w p 0 a) (h2 : KeyAt w q 0 b) :
    Calls Try.prog 38 #[.slice (some ⟨p, 0, none⟩) 16 16, .slice (some ⟨q, 0, none⟩) 16 16] w fun e w' => e = .returned (.int .i64 (lexC a b)) ∧ w' = w := by
  have hx := run_cmpKeys w p q a b ha hb h1 h2
  go_enter Try.func38, Try.ntmps38
  go_wp2
  rw [run_callFunc_extern Try.func41 (by kernel_rfl) (by kernel_rfl) (by kernel_rfl) (e := Extern.BytealgCompare.compare) (by kernel_rfl), hx]
  simp only [Result.andThen]
  rw [Oper.upon_value]
  go_wp2
  go_ret
  exact ⟨rfl, rfl⟩
set_option maxRecDepth 100000 in
theorem bindex_any (w : World) (p : Nat) (k : List Int) (hk : Ky k) (h : KeyAt w p 0 k) :
    Calls Try.prog 40 #[.slice (some ⟨p, 0, none⟩) 16 16, .int .u8 0] w fun e w' => e = .returned (.int .i64 (if (txK k).length < 16 then ((txK k).length : Int) else -1)) ∧ w' = w := by
  have hx := Lib.run_indexByteSlice (P := Try.prog) w p 0 16 16 k hk.len (fun i hi => h.cell i hi) 0
  have hi := idx_zero k hk.bytes
  rw [hk.len] at hi
  rw [show (0 : Int).toNat.toUInt8 = 0 from rfl, hi] at hx
  generalize (if (txK k).length < 16 then ((txK k).length : Int) else -1) = Z at hx ⊢
  go_enter Try.func40, Try.ntmps40
  go_wp2
  rw [run_callFunc_extern Try.func42 (by kernel_rfl) (by kernel_rfl) (by kernel_rfl) (e := Extern.BytealgIndexByte.indexByte) (by kernel_rfl), hx]
  simp only [Result.andThen]
  rw [Oper.upon_value]
  go_wp2
  go_ret
  exact ⟨rfl, rfl⟩
end Go.Proofs.Ytdbgkbgodnknnaa
