/-
  What layer 12's own sto answers: a store as the document's own.
-/
import Derived.Test.YtpnjcflfnoamoaaGreatAu30
import Derived.Test.YtpnjcflfnoamoaaGreatAu18
namespace Go.Proofs.YtpnjcflfnoamoaaGreat
open Go.RowKit
set_option linter.unusedVariables false

set_option maxHeartbeats 4000000 in
set_option maxRecDepth 4000 in
theorem schain2_any (p : Nat) (L : List Ver) (X : Foot) (k : List Int) (hk : Ky k) (w : World) (h : StD w p L X) :
    Calls Tryz.prog 31 #[.pointer (some ⟨p, 0, none⟩), kv k] w fun e w' => (∃ a c, e = .returned (.slice a (oneV L k).length c) ∧ w'.ownsRow w.heap.size 75 4 (.slice a (oneV L k).length c) (oneV L k).length ((oneV L k).flatMap encC)) ∧ Below w.heap.size w w' := by
  obtain ⟨hg, m, G, Y, hi, hne⟩ := h
  have KY : Hid (Ky k) := hk
  obtain ⟨w1, hw1⟩ : ∃ u, u = w.alloc (.cells (kcs k) 57) := ⟨_, rfl⟩
  have hK1 : KBox w w1 k := by rw [hw1]; exact KBox.made w hk
  have HB1 : Hid (Below w.heap.size w w1) := hK1.below
  have FK : Hid (∀ u, Below w1.heap.size w1 u → KeyAt u w.heap.size 0 k) := fun u hb => hK1.key.past hb
  have FC : Hid (∀ u, Below w1.heap.size w1 u → u.cell? ⟨p, 0, none⟩ = some (.map (some m))) := fun u hb => (hi.past (HB1.out.trans (hb.mono HB1.out.size))).c0
  have LK : Hid (∀ u, Below w1.heap.size w1 u → (Instr.lookup 98 (.map (some m)) (kv k) true).run Tryz.prog u = .ok (.tuple #[ptrV (G k), .bool (G k).isSome]) u) := fun u hb => (hi.past (HB1.out.trans (hb.mono HB1.out.size))).look hk
  have HW1 : Hid (w.alloc (.cells (kcs k) 57) = w1) := hw1.symm
  obtain ⟨M, hM⟩ : ∃ M, M = oneV L k := ⟨_, rfl⟩
  rw [← hM]
  cases hgk : G k with
  | none =>
    have HM : Hid (M = []) := hM.trans (hi.empty k hk hgk)
    have LK : Hid (∀ u, Below w1.heap.size w1 u → (Instr.lookup 98 (.map (some m)) (kv k) true).run Tryz.prog u = .ok (.tuple #[.pointer none, .bool false]) u) := by rw [hgk] at LK; exact LK
    clear hgk hi hne hg hw1 hk hK1 hM
    go_enter Tryz.func31, Tryz.ntmps31
    go_wp2
    rw [HW1.out]
    refine wp_region_noPanic ?_
    refine wp_region_held_drew (S := fun u => Below w1.heap.size w1 u) (by kernel_rfl) ?_ (fun hHeld => ?_)
    · exact (Below.refl _ _).drew
    refine wpAnyH_take (i := 0) (v := ?_) rfl (by kernel_rfl) (by kernel_rfl) (by kernel_rfl) (fun _ _ _ h => h) (Or.inl ⟨by rfl, ?_⟩) hHeld ?_
    rotate_left
    · intro u hSu
      (go_simp) <;> (with_reducible rfl)
    change wpAnyH _ _ _ _ _ _ _ (Act.put _ (some 8) _) _
    simp only [Act.put, List.setIfInBounds_toArray, List.set_cons_zero, List.set_cons_succ]
    refine wpAnyH_take (i := 1) (v := ?_) rfl (by kernel_rfl) (by kernel_rfl) (by kernel_rfl) (fun _ _ _ h => h) (Or.inl ⟨by rfl, ?_⟩) hHeld ?_
    rotate_left
    · intro u hSu
      (go_simp) <;> (with_reducible rfl)
    change wpAnyH _ _ _ _ _ _ _ (Act.put _ (some 9) _) _
    simp only [Act.put, List.setIfInBounds_toArray, List.set_cons_zero, List.set_cons_succ]
    refine wpAnyH_take (i := 2) (v := ?_) rfl (by kernel_rfl) (by kernel_rfl) (by kernel_rfl) (fun _ _ _ h => h) (Or.inl ⟨by rfl, ?_⟩) hHeld ?_
    rotate_left
    · intro u hSu
      (go_simp) <;> (with_reducible rfl)
    change wpAnyH _ _ _ _ _ _ _ (Act.put _ (some 10) _) _
    simp only [Act.put, List.setIfInBounds_toArray, List.set_cons_zero, List.set_cons_succ]
    refine wpAnyH_take (i := 3) (v := ?_) rfl (by kernel_rfl) (by kernel_rfl) (by kernel_rfl) (fun _ _ _ h => h) (Or.inl ⟨by rfl, ?_⟩) hHeld ?_
    rotate_left
    · intro u hSu
      have q0 := FC.out u hSu
      (go_simp) <;> (with_reducible rfl)
    change wpAnyH _ _ _ _ _ _ _ (Act.put _ (some 11) _) _
    simp only [Act.put, List.setIfInBounds_toArray, List.set_cons_zero, List.set_cons_succ]
    refine wpAnyH_take (i := 4) (v := kv k) rfl (by kernel_rfl) (by kernel_rfl) (by kernel_rfl) (fun _ _ _ h => h) (yieldsIf_load_mid (by rfl) _ _ rfl _ _ rfl (k.map (Value.int .u8)) _ (fun u hu => (FK.out u hu).range KY.out) Tryz.underlying57 rfl (info_keyl k KY.out)) hHeld ?_
    change wpAnyH _ _ _ _ _ _ _ (Act.put _ (some 12) _) _
    simp only [Act.put, List.setIfInBounds_toArray, List.set_cons_zero, List.set_cons_succ]
    refine wpAnyH_take (i := 5) (v := ?_) rfl (by kernel_rfl) (by kernel_rfl) (by kernel_rfl) (fun _ _ _ h => h) (Or.inl ⟨by rfl, ?_⟩) hHeld ?_
    rotate_left
    · intro u hSu
      have q1 := LK.out u hSu
      (go_simp) <;> (with_reducible rfl)
    change wpAnyH _ _ _ _ _ _ _ (Act.put _ (some 13) _) _
    simp only [Act.put, List.setIfInBounds_toArray, List.set_cons_zero, List.set_cons_succ]
    refine wpAnyH_take (i := 6) (v := ?_) rfl (by kernel_rfl) (by kernel_rfl) (by kernel_rfl) (fun _ _ _ h => h) (Or.inl ⟨by rfl, ?_⟩) hHeld ?_
    rotate_left
    · intro u hSu
      (go_simp) <;> (with_reducible rfl)
    change wpAnyH _ _ _ _ _ _ _ (Act.put _ (some 7) _) _
    simp only [Act.put, List.setIfInBounds_toArray, List.set_cons_zero, List.set_cons_succ]
    refine wpAnyH_take (i := 7) (v := ?_) rfl (by kernel_rfl) (by kernel_rfl) (by kernel_rfl) (fun _ _ _ h => h) (Or.inl ⟨by rfl, ?_⟩) hHeld ?_
    rotate_left
    · intro u hSu
      (go_simp) <;> (with_reducible rfl)
    change wpAnyH _ _ _ _ _ _ _ (Act.put _ (some 14) _) _
    simp only [Act.put, List.setIfInBounds_toArray, List.set_cons_zero, List.set_cons_succ]
    refine wpAnyH_take (i := 8) (v := ?_) rfl (by kernel_rfl) (by kernel_rfl) (by kernel_rfl) (fun _ _ _ h => h) (Or.inl ⟨by rfl, ?_⟩) hHeld ?_
    rotate_left
    · intro u hSu
      (go_simp) <;> (with_reducible rfl)
    change wpAnyH _ _ _ _ _ _ _ (Act.put _ (some 15) _) _
    simp only [Act.put, List.setIfInBounds_toArray, List.set_cons_zero, List.set_cons_succ]
    refine wpAnyH_take (i := 9) (v := ?_) rfl (by kernel_rfl) (by kernel_rfl) (by kernel_rfl) (fun _ _ _ h => h) (Or.inl ⟨by rfl, ?_⟩) hHeld ?_
    rotate_left
    · intro u hSu
      (go_simp) <;> (with_reducible rfl)
    change wpAnyH _ _ _ _ _ _ _ (Act.put _ (some 5) _) _
    simp only [Act.put, List.setIfInBounds_toArray, List.set_cons_zero, List.set_cons_succ]
    refine wpAnyH_take (i := 10) (v := ?_) rfl (by kernel_rfl) (by kernel_rfl) (by kernel_rfl) (fun _ _ _ h => h) (Or.inl ⟨by rfl, ?_⟩) hHeld ?_
    rotate_left
    · intro u hSu
      (go_simp) <;> (with_reducible rfl)
    change wpAnyH _ _ _ _ _ _ _ (Act.put _ (some 6) _) _
    simp only [Act.put, List.setIfInBounds_toArray, List.set_cons_zero, List.set_cons_succ]
    refine wpAnyH_done (by kernel_rfl) ?_ _
    refine NoPanic.normal ?_
    go_wp2
    go_ret
    rw [HM.out]
    exact ⟨⟨none, 0, rfl, World.ownsRow_nil _ _ _ _⟩, HB1.out.drew⟩
  | some g =>
    have LK : Hid (∀ u, Below w1.heap.size w1 u → (Instr.lookup 98 (.map (some m)) (kv k) true).run Tryz.prog u = .ok (.tuple #[.pointer (some ⟨g, 0, none⟩), .bool true]) u) := by rw [hgk] at LK; exact LK
    have hch := hi.file k g hk hgk
    have CA : Hid (∀ u, Below w.heap.size w u → Calls Tryz.prog 55 #[.pointer (some ⟨g, 0, none⟩)] u fun e w' => (∃ a c, e = .returned (.slice a M.length c) ∧ w'.ownsRow w.heap.size 75 4 (.slice a M.length c) M.length (M.flatMap encC)) ∧ Below u.heap.size u w') := fun u hb => by
      rw [hM]
      refine (call2_any g (oneV L k) (Y k) u (hch.past hb)).mono ?_
      rintro e w' ⟨⟨a, c, rfl, ho⟩, hb'⟩
      exact ⟨⟨a, c, rfl, World.ownsRow.mono ho hb.size⟩, hb'⟩
    clear hgk hi hne hg hw1 hk hK1 hM hch
    generalize hC : M.flatMap encC = C at *
    generalize hN : M.length = N at *
    clear hN hC
    go_enter Tryz.func31, Tryz.ntmps31
    go_wp2
    rw [HW1.out]
    refine wp_region_noPanic ?_
    refine wp_region_held_drew (S := fun u => Below w1.heap.size w1 u) (by kernel_rfl) ?_ (fun hHeld => ?_)
    · exact (Below.refl _ _).drew
    refine wpAnyH_take (i := 0) (v := ?_) rfl (by kernel_rfl) (by kernel_rfl) (by kernel_rfl) (fun _ _ _ h => h) (Or.inl ⟨by rfl, ?_⟩) hHeld ?_
    rotate_left
    · intro u hSu
      (go_simp) <;> (with_reducible rfl)
    change wpAnyH _ _ _ _ _ _ _ (Act.put _ (some 8) _) _
    simp only [Act.put, List.setIfInBounds_toArray, List.set_cons_zero, List.set_cons_succ]
    refine wpAnyH_take (i := 1) (v := ?_) rfl (by kernel_rfl) (by kernel_rfl) (by kernel_rfl) (fun _ _ _ h => h) (Or.inl ⟨by rfl, ?_⟩) hHeld ?_
    rotate_left
    · intro u hSu
      (go_simp) <;> (with_reducible rfl)
    change wpAnyH _ _ _ _ _ _ _ (Act.put _ (some 9) _) _
    simp only [Act.put, List.setIfInBounds_toArray, List.set_cons_zero, List.set_cons_succ]
    refine wpAnyH_take (i := 2) (v := ?_) rfl (by kernel_rfl) (by kernel_rfl) (by kernel_rfl) (fun _ _ _ h => h) (Or.inl ⟨by rfl, ?_⟩) hHeld ?_
    rotate_left
    · intro u hSu
      (go_simp) <;> (with_reducible rfl)
    change wpAnyH _ _ _ _ _ _ _ (Act.put _ (some 10) _) _
    simp only [Act.put, List.setIfInBounds_toArray, List.set_cons_zero, List.set_cons_succ]
    refine wpAnyH_take (i := 3) (v := ?_) rfl (by kernel_rfl) (by kernel_rfl) (by kernel_rfl) (fun _ _ _ h => h) (Or.inl ⟨by rfl, ?_⟩) hHeld ?_
    rotate_left
    · intro u hSu
      have q0 := FC.out u hSu
      (go_simp) <;> (with_reducible rfl)
    change wpAnyH _ _ _ _ _ _ _ (Act.put _ (some 11) _) _
    simp only [Act.put, List.setIfInBounds_toArray, List.set_cons_zero, List.set_cons_succ]
    refine wpAnyH_take (i := 4) (v := kv k) rfl (by kernel_rfl) (by kernel_rfl) (by kernel_rfl) (fun _ _ _ h => h) (yieldsIf_load_mid (by rfl) _ _ rfl _ _ rfl (k.map (Value.int .u8)) _ (fun u hu => (FK.out u hu).range KY.out) Tryz.underlying57 rfl (info_keyl k KY.out)) hHeld ?_
    change wpAnyH _ _ _ _ _ _ _ (Act.put _ (some 12) _) _
    simp only [Act.put, List.setIfInBounds_toArray, List.set_cons_zero, List.set_cons_succ]
    refine wpAnyH_take (i := 5) (v := ?_) rfl (by kernel_rfl) (by kernel_rfl) (by kernel_rfl) (fun _ _ _ h => h) (Or.inl ⟨by rfl, ?_⟩) hHeld ?_
    rotate_left
    · intro u hSu
      have q1 := LK.out u hSu
      (go_simp) <;> (with_reducible rfl)
    change wpAnyH _ _ _ _ _ _ _ (Act.put _ (some 13) _) _
    simp only [Act.put, List.setIfInBounds_toArray, List.set_cons_zero, List.set_cons_succ]
    refine wpAnyH_take (i := 6) (v := ?_) rfl (by kernel_rfl) (by kernel_rfl) (by kernel_rfl) (fun _ _ _ h => h) (Or.inl ⟨by rfl, ?_⟩) hHeld ?_
    rotate_left
    · intro u hSu
      (go_simp) <;> (with_reducible rfl)
    change wpAnyH _ _ _ _ _ _ _ (Act.put _ (some 7) _) _
    simp only [Act.put, List.setIfInBounds_toArray, List.set_cons_zero, List.set_cons_succ]
    refine wpAnyH_take (i := 7) (v := ?_) rfl (by kernel_rfl) (by kernel_rfl) (by kernel_rfl) (fun _ _ _ h => h) (Or.inl ⟨by rfl, ?_⟩) hHeld ?_
    rotate_left
    · intro u hSu
      (go_simp) <;> (with_reducible rfl)
    change wpAnyH _ _ _ _ _ _ _ (Act.put _ (some 14) _) _
    simp only [Act.put, List.setIfInBounds_toArray, List.set_cons_zero, List.set_cons_succ]
    refine wpAnyH_take (i := 8) (v := ?_) rfl (by kernel_rfl) (by kernel_rfl) (by kernel_rfl) (fun _ _ _ h => h) (Or.inl ⟨by rfl, ?_⟩) hHeld ?_
    rotate_left
    · intro u hSu
      (go_simp) <;> (with_reducible rfl)
    change wpAnyH _ _ _ _ _ _ _ (Act.put _ (some 15) _) _
    simp only [Act.put, List.setIfInBounds_toArray, List.set_cons_zero, List.set_cons_succ]
    refine wpAnyH_take (i := 9) (v := ?_) rfl (by kernel_rfl) (by kernel_rfl) (by kernel_rfl) (fun _ _ _ h => h) (Or.inl ⟨by rfl, ?_⟩) hHeld ?_
    rotate_left
    · intro u hSu
      (go_simp) <;> (with_reducible rfl)
    change wpAnyH _ _ _ _ _ _ _ (Act.put _ (some 5) _) _
    simp only [Act.put, List.setIfInBounds_toArray, List.set_cons_zero, List.set_cons_succ]
    refine wpAnyH_take (i := 10) (v := ?_) rfl (by kernel_rfl) (by kernel_rfl) (by kernel_rfl) (fun _ _ _ h => h) (Or.inl ⟨by rfl, ?_⟩) hHeld ?_
    rotate_left
    · intro u hSu
      (go_simp) <;> (with_reducible rfl)
    change wpAnyH _ _ _ _ _ _ _ (Act.put _ (some 6) _) _
    simp only [Act.put, List.setIfInBounds_toArray, List.set_cons_zero, List.set_cons_succ]
    refine wpAnyH_done (by kernel_rfl) ?_ _
    refine NoPanic.normal ?_
    go_wp2_with (go_at_call 55; refine (CA.out _ HB1.out.drew).mono ?_; rintro e w2 ⟨⟨a2, c2, rfl, hv2⟩, hb2⟩; have HB2 : Hid (Below w.heap.size w w2) := HB1.out.drew.trans (hb2.mono HB1.out.size); have HV2 : Hid (w2.ownsRow w.heap.size 75 4 (.slice a2 N c2) N C) := hv2; clear hb2 hv2)
    go_ret
    exact ⟨⟨a2, c2, rfl, HV2.out⟩, HB2.out⟩
theorem row_kept {u u' : World} {B e size : Nat} {v : Value} {n : Nat} {xs : List Value} (h : u.ownsRow B e size v n xs) (hk : ∀ k, v.ownBlock = some k → u'.heap[k]? = u.heap[k]?) : u'.ownsRow B e size v n xs := by
  refine ⟨h.1, ?_⟩
  rcases h.2 with h0 | ⟨g, cap, cur, e1, hg, hh, r⟩
  · exact .inl h0
  · exact .inr ⟨g, cap, cur, e1, hg, (hk g (by rw [e1]; rfl)).trans hh, r⟩
/-- The answer on its way: q its block, its list since w1. -/
structure SoR (w1 u : World) (q : Nat) (M : List Ver) : Prop where
  chg : Chg w1 u (fun k => k = q)
  lt : q < w1.heap.size
  list : ∃ a c, u.cell? ⟨q, 0, none⟩ = some (.slice a M.length c) ∧ u.ownsRow w1.heap.size 67 20 (.slice a M.length c) M.length (M.flatMap encV)
  free : u.frozen? ⟨q, 0, none⟩ = false
theorem SoR.past {w1 u u' : World} {q : Nat} {M : List Ver} (h : SoR w1 u q M) (hb : Below u.heap.size u u') : SoR w1 u' q M := by
  obtain ⟨a, c, h1, h2⟩ := h.list
  have hq : q < u.heap.size := Nat.lt_of_lt_of_le h.lt h.chg.size
  exact ⟨h.chg.trans (Chg.of_below hb _) (fun _ _ x => x), h.lt, ⟨a, c, (hb.cell (p := ⟨q, 0, none⟩) hq).trans h1, own_below h2 hb (Nat.le_refl _)⟩, (hb.frozen (p := ⟨q, 0, none⟩) hq).trans h.free⟩
theorem SoR.more {w1 u w4 : World} {q N c c' : Nat} {M : List Ver} {V : Ver} {a a' : Option Addr} (h : SoR w1 u q M) (hown : u.ownsRow w1.heap.size 67 20 (.slice a M.length c) M.length (M.flatMap encV)) (hc : Chg u w4 (fun k => (Value.slice a M.length c).ownBlock = some k)) (hN : N = M.length + 1)
    (hrow : w4.ownsRow w1.heap.size 67 20 (.slice a' N c') N ((M ++ [V]).flatMap encV)) : SoR w1 (w4.setCell ⟨q, 0, none⟩ (.slice a' N c')) q (M ++ [V]) := by
  have hN2 : N = (M ++ [V]).length := by rw [hN]; simp
  subst hN2
  have hq : q < u.heap.size := Nat.lt_of_lt_of_le h.lt h.chg.size
  have hqk : w4.heap[q]? = u.heap[q]? := hc.block q hq (fun e => by have := (hown.lt q e).1; have := h.lt; omega)
  obtain ⟨a0, c0, h1, _⟩ := h.list
  refine ⟨(h.chg.trans (hc.mono (Y := fun k => (Value.slice a M.length c).ownBlock = some k) (fun _ _ x => x)) (fun k hk e => by have := (hown.lt k e).1; omega)).trans (Chg.set (X := fun k => k = q) w4 ⟨q, 0, none⟩ _ rfl) (fun _ _ x => x), h.lt, ⟨a', c', World.cell?_setCell_same _ _ _ ((cell_kept hqk 0).trans h1), row_kept hrow (fun k e => Below.heap_setCell _ _ _ k (fun e2 => ?_))⟩, by rw [World.frozen?_setCell]; exact (frozen_kept hqk 0).trans h.free⟩
  have e3 : k = q := e2
  have := (hrow.lt k e).1
  have := h.lt
  omega
theorem SoR.made (w : World) (u : World) (hb : Below (w.alloc (.cells #[.slice none 0 0] 71)).heap.size (w.alloc (.cells #[.slice none 0 0] 71)) u) : SoR u u w.heap.size [] := by
  have hlt : w.heap.size < (w.alloc (.cells #[.slice none 0 0] 71)).heap.size := by simp
  refine ⟨Chg.refl _ _, Nat.lt_of_lt_of_le hlt hb.size, ⟨none, 0, (hb.cell (p := ⟨w.heap.size, 0, none⟩) hlt).trans ?_, World.ownsRow_nil _ _ _ _⟩, (hb.frozen (p := ⟨w.heap.size, 0, none⟩) hlt).trans (World.frozen?_alloc_new _ _ _ _)⟩
  rw [World.cell?_alloc_new]; rfl
theorem SoR.store {w1 u : World} {q B : Nat} {M : List Ver} (h : SoR w1 u q M) (hB : B ≤ w1.heap.size) (hq : B ≤ q) (ho : OkL M) (hf : M.length ≤ 1000000) : StoreR u B q M := by
  obtain ⟨a, c, h1, h2⟩ := h.list
  refine ⟨Nat.lt_of_lt_of_le h.lt h.chg.size, hq, ⟨a, c, h1, World.ownsRow.mono h2 hB, fun k e => ?_⟩, h.free, ho, hf⟩
  have := (h2.lt k e).1
  have := h.lt
  omega
end Go.Proofs.YtpnjcflfnoamoaaGreat
