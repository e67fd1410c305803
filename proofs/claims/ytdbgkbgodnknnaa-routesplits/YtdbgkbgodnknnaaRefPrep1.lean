/-
  What the document says of entries (hourglassref10: GoodEntry, Writes, SameEntry).
-/
import Derived.Test.YtdbgkbgodnknnaaPrepMem
import Derived.Test.YtdbgkbgodnknnaaRefSto2
import Derived.Test.YtdbgkbgodnknnaaRefStampA
namespace Go.Proofs.Ytdbgkbgodnknnaa
open Go.RowKit
set_option linter.unusedVariables false

/-- An entry's cells in a box. -/
structure EBox (u : World) (b : Nat) (id s m t n : Int) (a : Option Addr) (N c : Nat) : Prop where
  c0 : u.cell? ⟨b, 0, none⟩ = some (.int .i64 id)
  c1 : u.cell? ⟨b, 1, none⟩ = some (.int .i64 s)
  c2 : u.cell? ⟨b, 2, none⟩ = some (.int .u8 m)
  c3 : u.cell? ⟨b, 3, none⟩ = some (.int .i64 t)
  c4 : u.cell? ⟨b, 4, none⟩ = some (.int .u8 n)
  c5 : u.cell? ⟨b, 5, none⟩ = some (.slice a N c)
theorem EBox.made (w : World) (T : TypeId) (id s m t n : Int) (a : Option Addr) (N c : Nat) : EBox (w.alloc (.cells #[.int .i64 id, .int .i64 s, .int .u8 m, .int .i64 t, .int .u8 n, .slice a N c] T)) w.heap.size id s m t n a N c := by
  refine ⟨?_, ?_, ?_, ?_, ?_, ?_⟩ <;> (rw [World.cell?_alloc_new]; rfl)
theorem EBox.past {u u' : World} {b : Nat} {id s m t n : Int} {a : Option Addr} {N c : Nat} (h : EBox u b id s m t n a N c) (hb : Below u.heap.size u u') : EBox u' b id s m t n a N c :=
  have hl := cell_lt h.c0
  ⟨(hb.cell (p := ⟨b, 0, none⟩) hl).trans h.c0, (hb.cell (p := ⟨b, 1, none⟩) hl).trans h.c1, (hb.cell (p := ⟨b, 2, none⟩) hl).trans h.c2, (hb.cell (p := ⟨b, 3, none⟩) hl).trans h.c3, (hb.cell (p := ⟨b, 4, none⟩) hl).trans h.c4, (hb.cell (p := ⟨b, 5, none⟩) hl).trans h.c5⟩
theorem encW_parts {x : Wrt} (h : Ky x.k) : (encW x).take 16 = x.k.map (Value.int .u8) ∧ (encW x)[16]? = some (.string (strOfNums x.v)) ∧ (encW x)[17]? = some (.bool x.g) := by
  have hl := kc_len h
  unfold encW
  refine ⟨?_, ?_, ?_⟩
  · rw [List.take_append_of_le_length (by omega), List.take_of_length_le (by omega)]; rfl
  · rw [List.getElem?_append_right (by omega), hl]; rfl
  · rw [List.getElem?_append_right (by omega), hl]; rfl
theorem eq_key9w (w : World) (a b : List Int) (ha : Ky a) (hb : Ky b) : (Op.equalIn 9999 28 (.agg (a.map (Value.int .u8)).toArray) (.agg (b.map (Value.int .u8)).toArray)).run Try.prog w = .ok (decide (a = b)) w := by
  obtain ⟨i, hi⟩ := key_parts
  rw [run_equalIn_array w 9998 _ _ Try.underlying28 hi, List.range_eq_range', eq_items Try.underlying5 (by kernel_rfl) 9997 w a b 16 0 (by rw [ha.len]) (by rw [hb.len])]
  by_cases h : a = b <;> simp [h]
set_option maxHeartbeats 1000000 in
theorem eq_wrt_yes (w : World) (A : Wrt) (hA : WrtOk A) : (Op.equalIn 10000 32 (wv A) (wv A)).run Try.prog w = .ok true w := by
  obtain ⟨a0, a1, a2⟩ := encW_parts hA.key
  have hk := fun u => eq_key9w u A.k A.k hA.key hA.key
  have hs := str_eq hA.val hA.val
  go_simp
end Go.Proofs.Ytdbgkbgodnknnaa
