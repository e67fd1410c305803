/-
  A log whose disk crashes, wakes, is opened anew beside it; lists of two records made for one call (beneath WalKnown).
-/
import Derived.Test.YtlfmhdljldbjmaaWalMore
import Derived.Test.YtlfmhdljldbjmaaMine
namespace Go.Proofs.Ytlfmhdljldbjmaa
open Go.RowKit
set_option linter.unusedVariables false
theorem LT.turned {w u u' : World} {p b : Nat} {S S' : DS} {l : LS} {X X' Z : Foot} (h : LT w u p b S l X Z) (h1 : DiskD u' b S' X') (d : Did u u' X X') (hl : l.lives ≤ S.lives) (hs : (S'.off = S.off ∧ S'.lives = S.lives) ∨ (S'.off = true ∧ S'.lives = S.lives) ∨ (S'.off = false ∧ S'.lives = S.lives + 1)) : LT w u' p b S' l X' Z := by
  have r := h.dt.did h1 d
  refine ⟨⟨h1, (h.pd.log.kept d.chg.size (fun k z => d.chg.block k (h.pd.log.lt k z) (fun x => h.pd.apart k x z))).turn hl hs, fun k x z => ?_⟩, r.below, r.lo⟩
  rcases (d.new k x).1 with e | e
  · exact h.pd.apart k e z
  · have := h.pd.log.lt k z; omega
theorem lt_crashL (w u : World) (p b : Nat) (S : DS) (l : LS) (X Z : Foot) (keep torn : Int) (h : LT w u p b S l X Z) (hl : l.lives ≤ S.lives) (hz : sizeN S.fs ≤ 1048576) (hk0 : -9223372036854775808 ≤ keep) (hk1 : keep ≤ 9223372036854775807) (ht : 0 ≤ torn ∧ torn ≤ 255) :
    Calls Try.prog 16 #[.pointer (some ⟨b, 0, none⟩), .int .i64 keep, .int .u8 torn] u fun e w' => e = .returned (.tuple #[]) ∧ ∃ X', LT w w' p b (S.crash keep torn) l X' Z :=
  (dkcrash_any b S X keep torn u h.pd.disk hz hk0 hk1 ht).mono (by rintro e w' ⟨rfl, X', a1, a2⟩; exact ⟨rfl, X', h.turned a1 a2 hl (.inr (.inl ⟨rfl, rfl⟩))⟩)
theorem lt_onL (w u : World) (p b : Nat) (S : DS) (l : LS) (X Z : Foot) (h : LT w u p b S l X Z) (hl : l.lives ≤ S.lives) (hl1 : S.lives ≤ 1000000000) (hl0 : 0 ≤ S.lives) :
    Calls Try.prog 18 #[.pointer (some ⟨b, 0, none⟩)] u fun e w' => e = .returned (.tuple #[]) ∧ ∃ X', LT w w' p b S.on l X' Z :=
  (dkon_any b S X u h.pd.disk hl1 hl0).mono (by rintro e w' ⟨rfl, X', a1, a2⟩; exact ⟨rfl, X', h.turned a1 a2 hl (.inr (.inr ⟨rfl, rfl⟩))⟩)
theorem lt_openoff (w u : World) (p b : Nat) (S : DS) (l : LS) (X Z : Foot) (s : List Int) (h : LT w u p b S l X Z) (hl : l.lives ≤ S.lives) (ho : S.off = true) (hs : By s) (hn : s.length ≤ 1000) :
    Calls Try.prog 11 #[.pointer (some ⟨b, 0, none⟩), .string (strOfNums s)] u fun e w' => e = .returned (.tuple #[.pointer none, .int .i64 7]) ∧ ∃ X', LT w w' p b S l X' Z :=
  (wopen_off b S X s u h.pd.disk ho hs hn).mono (by rintro e w' ⟨rfl, X', a1, a2⟩; exact ⟨rfl, X', h.turned a1 a2 hl (.inl ⟨rfl, rfl⟩)⟩)
theorem lt_openbad (w u : World) (b : Nat) (S : DS) (X : Foot) (s : List Int) (h : DT w u b S X) (ho : S.off = false) (hm : mayN s = false) (hs : By s) (hn : s.length ≤ 1000) :
    Calls Try.prog 11 #[.pointer (some ⟨b, 0, none⟩), .string (strOfNums s)] u fun e w' => e = .returned (.tuple #[.pointer none, .int .i64 1]) ∧ ∃ X', DT w w' b S X' :=
  (wopen_bad b S X s u h.disk ho hm hs hn).mono (by rintro e w' ⟨rfl, X', a1, a2⟩; exact ⟨rfl, X', h.did a1 a2⟩)
theorem lt_atout (w u : World) (p b : Nat) (S : DS) (l : LS) (X Z : Foot) (n : Int) (h : LT w u p b S l X Z) (hn : offN S l = true ∨ n < 0 ∨ (l.L.length : Int) ≤ n) :
    Calls Try.prog 14 #[.pointer (some ⟨p, 0, none⟩), .int .i64 n] u fun e w' => ∃ c X' Z', e = .returned (.tuple #[.slice none 0 c, .int .i64 (atL S l n).1]) ∧ LT w w' p b S l X' Z' :=
  (wat_out w.heap.size p b S l X Z n u h.pd hn).mono (by rintro e w' ⟨c, X', Z', rfl, a1, a2⟩; exact ⟨c, X', Z', rfl, h.did a1 a2⟩)
theorem rows_nil (u : World) : RowsOf u none 0 [] := ⟨fun _ => ⟨rfl, rfl⟩, Nat.le_refl _, .inl rfl⟩
/-- Two records of a list, cell by cell. -/
theorem rows_two (u : World) (B : Nat) (x0 x1 : Option Addr) (c0 c1 : Nat) (r0 r1 : List Int) (g0 : u.cell? ⟨B, 0, none⟩ = some (.slice x0 r0.length c0)) (g1 : u.cell? ⟨B, 1, none⟩ = some (.slice x1 r1.length c1)) (h0 : Row u x0 r0) (h1 : Row u x1 r1) (n0 : x0 = none → c0 = 0) (n1 : x1 = none → c1 = 0) (m0 : r0.length ≤ c0) (m1 : r1.length ≤ c1) : RowsOf u (some ⟨B, 0, none⟩) 2 [r0, r1] := by
  refine ⟨(fun e => by cases e), Nat.le_refl _, .inr ⟨_, _, rfl, fun q hq => ?_⟩⟩
  match q, hq with
  | 0, _ => exact ⟨x0, c0, g0, h0, n0, m0⟩
  | 1, _ => exact ⟨x1, c1, g1, h1, n1, m1⟩
theorem row_cells (u : World) (B n : Nat) (r : List Int) (hr : By r) (h : ∀ j, j < r.length → u.cell? ⟨B, j, none⟩ = some (.int .u8 (r.getD j 0))) : Row u (some ⟨B, 0, none⟩) r := by
  refine ⟨hr, .inr ⟨_, _, rfl, fun j hj => ?_⟩⟩
  rw [Nat.zero_add]
  exact h j hj
theorem crash_all (B : List Int) (h : B.length ≤ 99) : crashB B 0 99 0 = B := by
  unfold crashB crashF
  simp only
  rw [if_neg (by simp)]
  exact List.take_of_length_le (by simp; omega)
/-- Three blocks made one behind another, kept by what came then. -/
theorem three_kept (u0 u' : World) (A B C : Obj) (X Z : Foot) (hX : ∀ k, X k → k < u0.heap.size) (hZ : ∀ k, Z k → k < u0.heap.size)
    (h : ∀ k, (((u0.alloc A).alloc B).alloc C).heap[k]? ≠ none → ¬ X k → ¬ Z k → u'.heap[k]? = (((u0.alloc A).alloc B).alloc C).heap[k]?) :
    u'.heap[u0.heap.size]? = some A ∧ u'.heap[u0.heap.size + 1]? = some B ∧ u'.heap[u0.heap.size + 2]? = some C := by
  have e : (((u0.alloc A).alloc B).alloc C).heap = ((u0.heap.push A).push B).push C := rfl
  have gA : (((u0.alloc A).alloc B).alloc C).heap[u0.heap.size]? = some A := by rw [e, Array.getElem?_push, if_neg (by simp; omega), Array.getElem?_push, if_neg (by simp), Array.getElem?_push, if_pos rfl]
  have gB : (((u0.alloc A).alloc B).alloc C).heap[u0.heap.size + 1]? = some B := by rw [e, Array.getElem?_push, if_neg (by simp), Array.getElem?_push, if_pos (by simp)]
  have gC : (((u0.alloc A).alloc B).alloc C).heap[u0.heap.size + 2]? = some C := by rw [e, Array.getElem?_push, if_pos (by simp)]
  refine ⟨?_, ?_, ?_⟩
  · rw [← gA]; exact h _ (by rw [gA]; simp) (fun x => by have := hX _ x; omega) (fun x => by have := hZ _ x; omega)
  · rw [← gB]; exact h _ (by rw [gB]; simp) (fun x => by have := hX _ x; omega) (fun x => by have := hZ _ x; omega)
  · rw [← gC]; exact h _ (by rw [gC]; simp) (fun x => by have := hX _ x; omega) (fun x => by have := hZ _ x; omega)
theorem cell_blk {u : World} {B : Nat} {C : Array Value} {t : Nat} {m : Nat × Nat} (h : u.heap[B]? = some (.cells C t m)) (j : Nat) : u.cell? ⟨B, j, none⟩ = C[j]? := by
  simp only [World.cell?, h]
  rfl
theorem row_one {u : World} {B : Nat} {z : Int} {t : Nat} {m : Nat × Nat} (hz : 0 ≤ z ∧ z ≤ 255) (h : u.heap[B]? = some (.cells #[.int .u8 z] t m)) : Row u (some ⟨B, 0, none⟩) [z] := by
  refine row_cells u B 0 [z] (fun y hy => ?_) (fun j hj => ?_)
  · simp at hy; rw [hy]; exact hz
  · obtain rfl : j = 0 := by simp at hj; omega
    rw [cell_blk h]; rfl
theorem row_zeros {u : World} {B n : Nat} {t : Nat} {m : Nat × Nat} (h : u.heap[B]? = some (.cells (zeros n) t m)) : Row u (some ⟨B, 0, none⟩) (List.replicate n 0) := by
  refine row_cells u B 0 _ (fun y hy => ?_) (fun j hj => ?_)
  · rw [List.mem_replicate] at hy; rw [hy.2]; omega
  · rw [List.length_replicate] at hj
    rw [cell_blk h, ← Array.getElem?_toList, zeros_list]
    simp [bs, List.getD, hj]
theorem rows_big (u0 u' : World) (X Z : Foot) (m0 m1 m2 : Nat × Nat) (hX : ∀ k, X k → k < u0.heap.size) (hZ : ∀ k, Z k → k < u0.heap.size)
    (h : ∀ k, (((u0.alloc (.cells #[.int .u8 120] 5 m0)).alloc (.cells (zeros 8001) 5 m1)).alloc (.cells #[.slice (some ⟨u0.heap.size, 0, none⟩) 1 1, .slice (some ⟨u0.heap.size + 1, 0, none⟩) 8001 8001] 31 m2)).heap[k]? ≠ none → ¬ X k → ¬ Z k → u'.heap[k]? = (((u0.alloc (.cells #[.int .u8 120] 5 m0)).alloc (.cells (zeros 8001) 5 m1)).alloc (.cells #[.slice (some ⟨u0.heap.size, 0, none⟩) 1 1, .slice (some ⟨u0.heap.size + 1, 0, none⟩) 8001 8001] 31 m2)).heap[k]?) : RowsOf u' (some ⟨u0.heap.size + 2, 0, none⟩) 2 [[120], List.replicate 8001 0] := by
  obtain ⟨hA, hB, hC⟩ := three_kept u0 u' _ _ _ X Z hX hZ h
  refine rows_two u' _ (some ⟨u0.heap.size, 0, none⟩) (some ⟨u0.heap.size + 1, 0, none⟩) 1 8001 _ _ ?_ ?_ (row_one (by omega) hA) (row_zeros hB) (fun e => by cases e) (fun e => by cases e) (Nat.le_refl _) ?_
  · rw [cell_blk hC]; rfl
  · rw [cell_blk hC, List.length_replicate]; rfl
  · rw [List.length_replicate]; exact Nat.le_refl _
theorem rows_pq (u0 u' : World) (y z : Int) (hy : 0 ≤ y ∧ y ≤ 255) (hz : 0 ≤ z ∧ z ≤ 255) (X Z : Foot) (m0 m1 m2 : Nat × Nat) (hX : ∀ k, X k → k < u0.heap.size) (hZ : ∀ k, Z k → k < u0.heap.size)
    (h : ∀ k, (((u0.alloc (.cells #[.int .u8 y] 5 m0)).alloc (.cells #[.int .u8 z] 5 m1)).alloc (.cells #[.slice (some ⟨u0.heap.size, 0, none⟩) 1 1, .slice (some ⟨u0.heap.size + 1, 0, none⟩) 1 1] 31 m2)).heap[k]? ≠ none → ¬ X k → ¬ Z k → u'.heap[k]? = (((u0.alloc (.cells #[.int .u8 y] 5 m0)).alloc (.cells #[.int .u8 z] 5 m1)).alloc (.cells #[.slice (some ⟨u0.heap.size, 0, none⟩) 1 1, .slice (some ⟨u0.heap.size + 1, 0, none⟩) 1 1] 31 m2)).heap[k]?) : RowsOf u' (some ⟨u0.heap.size + 2, 0, none⟩) 2 [[y], [z]] := by
  obtain ⟨hA, hB, hC⟩ := three_kept u0 u' _ _ _ X Z hX hZ h
  refine rows_two u' _ (some ⟨u0.heap.size, 0, none⟩) (some ⟨u0.heap.size + 1, 0, none⟩) 1 1 _ _ ?_ ?_ (row_one hy hA) (row_one hz hB) (fun e => by cases e) (fun e => by cases e) (Nat.le_refl _) (Nat.le_refl _)
  · rw [cell_blk hC]; rfl
  · rw [cell_blk hC]; rfl
theorem three_past {w u : World} {p b : Nat} {S : DS} {l : LS} {X Z : Foot} (h : LT w u p b S l X Z) (A B C : Obj) : LT w (((u.alloc A).alloc B).alloc C) p b S l X Z := ((h.past ((Below.refl _ _).alloc (Nat.le_refl _) _)).past ((Below.refl _ _).alloc (Nat.le_refl _) _)).past ((Below.refl _ _).alloc (Nat.le_refl _) _)
end Go.Proofs.Ytlfmhdljldbjmaa
