/-
  What last, At, Newest and Since of the landed chains answer.
  What Trim of the landed chains answers and leaves.
-/
import Derived.Test.YtileidbdmpeciaaGreatAu75
namespace Go.Proofs.YtileidbdmpeciaaGreat
open Go.RowKit
set_option linter.unusedVariables false

set_option maxHeartbeats 2000000 in
theorem clast_any (p : Nat) (L : List Ver) (X : Foot) (k : Nat) (w : World) (h : ChD w p L X) (hk : k ≤ L.length) :
    Calls Tryz.prog 144 #[.pointer (some ⟨p, 0, none⟩), .int .i64 k] w fun e w' => e = .returned (.tuple #[cvv (orZero (lastN L k)), .bool (lastN L k).isSome]) ∧ Below w.heap.size w w' := by
  obtain ⟨a, c, hc1, hc2, hc3, hcell, hver⟩ := h.open
  have hfew := h.chn.few
  have HM0 : Hid (CMine (w.alloc (.cells (encC zeroV).toArray 136)) w.heap.size zeroV) := CMine.made w 136 zeroV
  have HB0 : Hid (Below w.heap.size w (w.alloc (.cells (encC zeroV).toArray 136))) := (Below.refl _ _).alloc (Nat.le_refl _) _
  have q0 := (hcell _ HB0.out).1
  rw [zeroC_cells] at HM0 HB0 q0
  obtain ⟨N, hN⟩ : ∃ N, N = L.length := ⟨_, rfl⟩
  rw [← hN] at hk hc1 q0 hfew
  by_cases h0 : k = 0
  · subst h0
    clear hcell hver h hc3
    go_enter Tryz.func144, Tryz.ntmps144
    go_wp2_with (refine wpList_store_cver (.tmp 4) (by rfl) _ (by rfl) w.heap.size zeroV zeroV (by rfl) (by rfl) HM0.out ?_; intro u hu; have HD : Hid (CMine u w.heap.size zeroV) := hu ▸ HM0.out.store zeroV; have HBU : Hid (Below w.heap.size w u) := hu ▸ below_cells (by omega) HB0.out; clear hu)
    (try simp only [Exit.inBlock, Exit.then])
    refine bodyPost_ret (results_cver rfl _ _ w.heap.size zeroV rfl HD.out.at_) rfl ?_
    exact ⟨rfl, HBU.out⟩
  · obtain ⟨j, rfl⟩ : ∃ j, k = j + 1 := ⟨k - 1, by omega⟩
    have hjN : j < N := by omega
    obtain ⟨V1, hV1⟩ : ∃ V, L[j]? = some V := ⟨_, List.getElem?_eq_getElem (by omega)⟩
    obtain ⟨g, hag, hg, hat⟩ : ∃ g, a = some ⟨g, 0, none⟩ ∧ g < w.heap.size ∧ ∀ v, Below w.heap.size w v → ∀ i V, L[i]? = some V → CVerAt v g (i * 4) V := by
      rcases hver with e | e
      · rw [e] at hV1; simp at hV1
      · exact e
    subst hag
    have HL : Hid (lastN L (j + 1) = some V1) := by show _ = _; unfold lastN; rw [if_neg (by omega), Nat.add_sub_cancel]; exact hV1
    have HVA : Hid (CVerAt (w.alloc (.cells #[.int .i64 0, .int .u8 0, .string ⟨#[]⟩, .bool false] 136)) g (j * 4) V1) := hat _ HB0.out j V1 hV1
    rw [HL.out]
    have hj1 : ((j + 1 : Nat) : Int) - 1 = (j : Int) := by omega
    have hj2 : ¬ (((j + 1 : Nat) : Int) = 0) := by omega
    clear hcell hver h hV1 hat hc3
    go_enter Tryz.func144, Tryz.ntmps144
    go_wp2_with (first | (refine wpList_load_cver 16 (by rfl) (by rfl) _ (by rfl) g (j * 4) (by rfl) V1 HVA.out ?_) | (refine wpList_store_cver (.tmp 4) (by rfl) _ (by rfl) w.heap.size zeroV V1 (by rfl) (by rfl) HM0.out ?_; intro u hu; have HD : Hid (CMine u w.heap.size V1) := hu ▸ HM0.out.store V1; have HBU : Hid (Below w.heap.size w u) := hu ▸ below_cells (by omega) HB0.out; clear hu))
    (try simp only [Exit.inBlock, Exit.then])
    refine bodyPost_ret (results_cver rfl _ _ w.heap.size V1 rfl HD.out.at_) rfl ?_
    exact ⟨rfl, HBU.out⟩
set_option maxHeartbeats 2000000 in
theorem cat_any (p : Nat) (L : List Ver) (X : Foot) (t n : Int) (w : World) (h : ChD w p L X) :
    Calls Tryz.prog 103 #[.pointer (some ⟨p, 0, none⟩), .agg #[.int .i64 t, .int .u8 n]] w fun e w' => e = .returned (.tuple #[cvv (orZero (atV L zeroK t n)), .bool (atV L zeroK t n).isSome]) ∧ Below w.heap.size w w' := by
  obtain ⟨W0, hW0⟩ : ∃ W0, W0 = w.alloc (.cells #[.int .i64 t, .int .u8 n] 28) := ⟨_, rfl⟩
  have e0 : W0.heap.size = w.heap.size + 1 := by rw [hW0]; simp
  have HB0 : Hid (Below w.heap.size w (W0.alloc (.cells (encC zeroV).toArray 136))) := by
    rw [hW0]; exact ((Below.refl _ _).alloc (Nat.le_refl _) _).alloc (by simp) _
  have HM0 : Hid (CMine (W0.alloc (.cells (encC zeroV).toArray 136)) (w.heap.size + 1) zeroV) := by
    have := CMine.made W0 136 zeroV
    rw [e0] at this
    exact this
  rw [at_last h.chn.one h.chn.ups]
  obtain ⟨k, hk⟩ : ∃ k, k = upN L t n := ⟨_, rfl⟩
  have hkl : k ≤ L.length := by rw [hk]; exact (up_facts h.chn.ups t n).1
  have CU : Hid (∀ u, Below w.heap.size w u → Calls Tryz.prog 145 #[.pointer (some ⟨p, 0, none⟩), .agg #[.int .i64 t, .int .u8 n]] u fun e w' => e = .returned (.int .i64 (k : Nat)) ∧ Below u.heap.size u w') := fun u hb => by rw [hk]; exact cupto_any p L X t n u (h.past hb)
  rw [← hk]
  obtain ⟨V1, hV1⟩ : ∃ V, V = orZero (lastN L k) := ⟨_, rfl⟩
  obtain ⟨ok, hok⟩ : ∃ b, b = (lastN L k).isSome := ⟨_, rfl⟩
  have CL : Hid (∀ u, Below w.heap.size w u → Calls Tryz.prog 144 #[.pointer (some ⟨p, 0, none⟩), .int .i64 k] u fun e w' => e = .returned (.tuple #[cvv V1, .bool ok]) ∧ Below u.heap.size u w') := fun u hb => by rw [hV1, hok]; exact clast_any p L X k u (h.past hb) hkl
  rw [← hV1, ← hok]
  rw [zeroC_cells, hW0] at HB0 HM0
  clear hk hkl hV1 hok h hW0 e0
  go_enter Tryz.func103, Tryz.ntmps103
  go_wp2_with (first | (go_at_call 145; refine (CU.out _ HB0.out).mono ?_; rintro e w1 ⟨rfl, hb1⟩; have HM1 : Hid (CMine w1 (w.heap.size + 1) zeroV) := HM0.out.past hb1; have HB1 : Hid (Below w.heap.size w w1) := HB0.out.trans (hb1.mono HB0.out.size); clear hb1) | (go_at_call 144; refine (CL.out _ HB1.out).mono ?_; rintro e w2 ⟨rfl, hb2⟩; have HM2 : Hid (CMine w2 (w.heap.size + 1) zeroV) := HM1.out.past hb2; have HB2 : Hid (Below w.heap.size w w2) := HB1.out.trans (hb2.mono HB1.out.size); clear hb2) | (have hgo := HM2.out; clear hgo; refine wpList_store_cver (.tmp 4) (by rfl) _ (by rfl) (w.heap.size + 1) zeroV V1 (by rfl) (by rfl) HM2.out ?_; intro u hu; have HD : Hid (CMine u (w.heap.size + 1) V1) := hu ▸ HM2.out.store V1; have HBU : Hid (Below w.heap.size w u) := hu ▸ below_cells (by omega) HB2.out; clear hu))
  (try simp only [Exit.inBlock, Exit.then])
  refine bodyPost_ret (results_cver rfl _ _ (w.heap.size + 1) V1 rfl HD.out.at_) rfl ?_
  exact ⟨rfl, HBU.out⟩
set_option maxHeartbeats 2000000 in
theorem cnewest_any (p : Nat) (L : List Ver) (X : Foot) (w : World) (h : ChD w p L X) :
    Calls Tryz.prog 125 #[.pointer (some ⟨p, 0, none⟩)] w fun e w' => e = .returned (.tuple #[cvv (orZero (newestV L zeroK)), .bool (newestV L zeroK).isSome]) ∧ Below w.heap.size w w' := by
  obtain ⟨a, c, hc1, hc2, hc3, hcell, _⟩ := h.open
  have HB0 : Hid (Below w.heap.size w (w.alloc (.cells (encC zeroV).toArray 136))) := (Below.refl _ _).alloc (Nat.le_refl _) _
  have HM0 : Hid (CMine (w.alloc (.cells (encC zeroV).toArray 136)) w.heap.size zeroV) := CMine.made w 136 zeroV
  have q0 := (hcell _ HB0.out).1
  rw [newest_last h.chn.one]
  obtain ⟨k, hk⟩ : ∃ k, k = L.length := ⟨_, rfl⟩
  obtain ⟨V1, hV1⟩ : ∃ V, V = orZero (lastN L k) := ⟨_, rfl⟩
  obtain ⟨ok, hok⟩ : ∃ b, b = (lastN L k).isSome := ⟨_, rfl⟩
  have CL : Hid (∀ u, Below w.heap.size w u → Calls Tryz.prog 144 #[.pointer (some ⟨p, 0, none⟩), .int .i64 k] u fun e w' => e = .returned (.tuple #[cvv V1, .bool ok]) ∧ Below u.heap.size u w') := fun u hb => by rw [hV1, hok]; exact clast_any p L X k u (h.past hb) (by omega)
  rw [← hk, ← hV1, ← hok]
  rw [← hk] at q0
  rw [zeroC_cells] at HB0 HM0 q0
  clear hk hV1 hok h hcell hc3 hc1 hc2
  go_enter Tryz.func125, Tryz.ntmps125
  go_wp2_with (first | (go_at_call 144; refine (CL.out _ HB0.out).mono ?_; rintro e w2 ⟨rfl, hb2⟩; have HM2 : Hid (CMine w2 w.heap.size zeroV) := HM0.out.past hb2; have HB2 : Hid (Below w.heap.size w w2) := HB0.out.trans (hb2.mono HB0.out.size); clear hb2) | (have hgo := HM2.out; clear hgo; refine wpList_store_cver (.tmp 2) (by rfl) _ (by rfl) w.heap.size zeroV V1 (by rfl) (by rfl) HM2.out ?_; intro u hu; have HD : Hid (CMine u w.heap.size V1) := hu ▸ HM2.out.store V1; have HBU : Hid (Below w.heap.size w u) := hu ▸ below_cells (by omega) HB2.out; clear hu))
  (try simp only [Exit.inBlock, Exit.then])
  refine bodyPost_ret (results_cver rfl _ _ w.heap.size V1 rfl HD.out.at_) rfl ?_
  exact ⟨rfl, HBU.out⟩
end Go.Proofs.YtileidbdmpeciaaGreat

namespace Go.Proofs.YtileidbdmpeciaaGreat
open Go.RowKit
set_option linter.unusedVariables false

theorem set_ty {w : World} {p o : Nat} {cs : Array Value} {T : TypeId} {fz : Nat × Nat} {v : Value} (h : w.heap[p]? = some (.cells cs T fz)) : (w.setCell ⟨p, o, none⟩ v).heap[p]? = some (.cells (cs.setIfInBounds o v) T fz) := by
  simp [World.setCell, Array.getElem?_modify, h]
/-- A chain whose list has turned. -/
theorem ChD.turn {u w4 : World} {p N' c' : Nat} {L M : List Ver} {X : Foot} {v : Value} {a' : Option Addr} (h : ChD u p L X) (hv : ∀ k, v.ownBlock = some k → X k ∧ k ≠ p) (hg : u.grownBy w4 v.ownBlock) (hM : Chn M) (hN : M.length = N')
    (hrow : w4.ownsRow 0 136 4 (.slice a' N' c') N' (M.flatMap encC)) (hblk : ∀ k, (Value.slice a' N' c').ownBlock = some k → v.ownBlock = some k ∨ u.heap.size ≤ k) :
    ∃ X', ChD (w4.setCell ⟨p, 0, none⟩ (.slice a' N' c')) p M X' ∧ Did u (w4.setCell ⟨p, 0, none⟩ (.slice a' N' c')) X X' := by
  subst hN
  have hp := h.lt p h.own
  have hpk : w4.heap[p]? = u.heap[p]? := hg.block p hp (fun e => (hv p e.symm).2 rfl)
  obtain ⟨a, c, h1, h2, h3⟩ := h.list
  refine ⟨fun k => (X k ∨ u.heap.size ≤ k) ∧ k < w4.heap.size, ⟨⟨.inl h.own, Nat.lt_of_lt_of_le hp hg.size⟩, fun k hk => by rw [World.size_setCell]; exact hk.2, hM, ⟨a', c', ?_, ?_, ?_⟩, ?_, ?_⟩, ?_⟩
  · exact World.cell?_setCell_same _ _ _ ((cell_kept hpk 0).trans h1)
  · refine crow_kept hrow (fun k e => Below.heap_setCell _ _ _ k (fun e2 => ?_))
    rcases hblk k e with e3 | e3
    · exact (hv k e3).2 e2
    · have : k = p := e2
      omega
  · intro k e
    have hlt := (hrow.lt k e).2
    rcases hblk k e with e3 | e3
    · exact ⟨⟨.inl (hv k e3).1, hlt⟩, (hv k e3).2⟩
    · exact ⟨⟨.inr e3, hlt⟩, by omega⟩
  · rw [World.frozen?_setCell]
    exact (frozen_kept hpk 0).trans h.free
  · obtain ⟨cs, fz, hcs⟩ := h.ty
    exact ⟨_, _, set_ty (hpk.trans hcs)⟩
  · refine ⟨(Chg.of_grown hg (X := X) (fun k e => (hv k e).1)).trans (Chg.set w4 ⟨p, 0, none⟩ _ h.own) (fun _ _ x => x), fun k hk => ⟨hk.1, by rw [World.size_setCell]; exact hk.2⟩⟩
end Go.Proofs.YtileidbdmpeciaaGreat

