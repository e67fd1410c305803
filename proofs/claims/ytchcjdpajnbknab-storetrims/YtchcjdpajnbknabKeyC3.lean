/-
  What package key answers: Of.
-/
import Derived.Test.YtchcjdpajnbknabKc
import Derived.Lib.LazyBuf
namespace Go.Proofs.Ytchcjdpajnbknab
open Go.RowKit
set_option linter.unusedVariables false

theorem tx_all {s : List Int} : (∀ z ∈ s, z ≠ 0) ↔ ¬ (txK s).length < s.length := by
  constructor
  · intro h
    have : txK s = s := by
      have := txK_app (s := s) (r := []) h (by simp)
      simpa using this
    rw [this]; omega
  · intro h z hz
    have hle := txK_le s
    have e : txK s = s := by
      have h1 := txK_split s
      have h2 : s.drop (txK s).length = [] := List.drop_of_length_le (by omega)
      rw [h2, List.append_nil] at h1
      exact h1.symm
    exact txK_none s z (by rw [e]; exact hz)
theorem str_cells (s : List Int) (hb : ∀ z ∈ s, 0 ≤ z ∧ z ≤ 255) : ((strOfNums s).data.toList.map fun x => Value.int .u8 (x.toNat : Int)) = s.map (Value.int .u8) := by
  have hd : (strOfNums s).data.toList = Lib.bytesOf s := by
    have := Lib.strOfNums_toList s
    rwa [Lib.toList_data] at this
  rw [hd]
  unfold Lib.bytesOf
  rw [List.map_map]
  refine List.map_congr_left fun z hz => ?_
  have h := byte_nat (hb z hz)
  show Value.int .u8 ((UInt8.ofNat z.toNat).toNat : Int) = _
  rw [show (UInt8.ofNat z.toNat).toNat = z.toNat from h]
  congr 1
  have := (hb z hz).1
  omega
/-- A text laid into a key of noughts. -/
theorem KeyMine.lay {w : World} {b : Nat} {s : List Int} (h : KeyMine w b 0 zeroK) (hs : s.length ≤ 16) (hb : ∀ z ∈ s, 0 ≤ z ∧ z ≤ 255) : KeyMine (w.setCells b 0 (s.map (Value.int .u8))) b 0 (keyK s) := by
  have ht : w.there b 0 (s.map (Value.int .u8)).length := fun j hj => h.there j (by rw [List.length_map] at hj; omega)
  have hr := World.rangeAt_setCells_same w b 0 (s.map (Value.int .u8)) ht
  refine ⟨⟨fun i hi => ?_⟩, fun i hi => by rw [World.frozen?_setCells]; exact h.free i hi, keyK_ky hs hb⟩
  by_cases e : i < s.length
  · refine hr i _ ?_
    simp [keyK, List.getD, e, List.getElem?_append]
  · rw [World.cell?_setCells_out b (s.map (Value.int .u8)) 0 w ⟨b, 0 + i, none⟩ (fun _ => by simp; omega), h.lies.cell i hi]
    have e2 : i - s.length < 16 - s.length := by omega
    have hz : zeroK.getD i 0 = 0 := by unfold zeroK; simp only [List.getD, List.getElem?_replicate, hi, if_true]; rfl
    rw [hz]
    unfold keyK
    simp only [List.getD, List.getElem?_append, e, if_false, List.getElem?_replicate, e2, if_true]
    rfl
theorem str_empty (S : ByteArray) : S.toList.isEmpty = decide (S.size = 0) := by
  rw [Lib.toList_data]
  obtain ⟨⟨l⟩⟩ := S
  cases l <;> simp [ByteArray.size]
/-- The text of a key, laid. -/
theorem OfR.lay {w u : World} (h : OfR w u zeroK) {s : List Int} (hs : s.length ≤ 16) (hb : ∀ z ∈ s, 0 ≤ z ∧ z ≤ 255) : OfR w (u.setCells (w.heap.size + 1) 0 (s.map (Value.int .u8))) (keyK s) :=
  ⟨below_cells (by omega) h.below, h.res.other (by omega), h.key.lay hs hb⟩
end Go.Proofs.Ytchcjdpajnbknab
