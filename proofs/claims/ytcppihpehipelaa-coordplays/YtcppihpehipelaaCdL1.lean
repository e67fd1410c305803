/-
  Layer 18's own helpers: at, same, same64; all that is known of a landed Coord beside blocks that stay: what each call leaves of it.
-/
import Derived.Test.YtcppihpehipelaaCdC9
namespace Go.Proofs.Ytcppihpehipelaa
open Go.RowKit
set_option linter.unusedVariables false
set_option linter.unusedSimpArgs false

/-- Numbers that lie somewhere. -/
def RowI (w : World) (a : Option Addr) (l : List Int) : Prop := ∀ (i : Nat) (z : Int), l[i]? = some z → ∃ b o, a = some ⟨b, o, none⟩ ∧ w.cell? ⟨b, o + i, none⟩ = some (.int .i64 z)
theorem RowI.past {w w' : World} {a : Option Addr} {l : List Int} (h : RowI w a l) (hb : Below w.heap.size w w') : RowI w' a l := fun i z hz => by
  obtain ⟨b, o, e, hc⟩ := h i z hz
  exact ⟨b, o, e, (hb.cell (p := ⟨b, o + i, none⟩) (lt_of_cell hc)).trans hc⟩
theorem IntsAt.rowI {w : World} {a : Option Addr} {l : List Int} (h : IntsAt w a l) : RowI w a l := fun i z hz => by
  obtain ⟨b, o, x, e, hc, hx⟩ := h.at (i := i) (List.getElem?_eq_some_iff.1 hz).1
  rw [hz] at hx
  injection hx with hx
  subst hx
  exact ⟨b, o, e, hc⟩
theorem NumsD.rowI {w : World} {a : Option Addr} {l : List Int} (h : NumsD w a l) : RowI w a l := fun i z hz => by
  obtain ⟨g, e, hc⟩ := h i z hz
  exact ⟨g, 0, e, by rw [Nat.zero_add]; exact hc⟩
theorem rowI_made (w : World) (T : TypeId) (l : List Int) : RowI (w.alloc (.cells (l.map (Value.int .i64)).toArray T)) (some ⟨w.heap.size, 0, none⟩) l := fun i z hz => ⟨_, 0, rfl, by
  rw [Nat.zero_add, World.cell?_alloc_new, List.getElem?_toArray, List.getElem?_map, hz]; rfl⟩
theorem intsAt_made (w : World) (T : TypeId) (l : List Int) (hb : ∀ z ∈ l, -9223372036854775808 ≤ z ∧ z ≤ 9223372036854775807) : IntsAt (w.alloc (.cells (l.map (Value.int .i64)).toArray T)) (some ⟨w.heap.size, 0, none⟩) l := by
  refine ⟨.inr ⟨_, 0, rfl, fun j hj => ?_⟩, hb⟩
  rw [Nat.zero_add, World.cell?_alloc_new, List.getElem?_toArray, List.getElem?_map, List.getElem?_eq_getElem hj]
  simp [List.getD, hj]
set_option maxHeartbeats 2000000 in
theorem cdsame_any (a b : Option Addr) (N c d : Nat) (zs : List Int) (w : World) (hl : zs.length = N) (hc : N ≤ c) (hd : N ≤ d) (hN : N ≤ 1000000) (ha : RowI w a zs) (hb : RowI w b zs) :
    Calls Try.prog 29 #[.slice a N c, .slice b N d] w fun e w' => e = .returned (.bool true) ∧ Below w.heap.size w w' := by
  have HL : Hid (zs.length = N) := hl
  have HA : Hid (∀ u, Below w.heap.size w u → RowI u a zs) := fun u h => ha.past h
  have HB : Hid (∀ u, Below w.heap.size w u → RowI u b zs) := fun u h => hb.past h
  clear ha hb hl
  go_enter Try.func29, Try.ntmps29
  go_wp2
  go_loopw [5] (fun iv wr => ∃ i : Nat, iv = .int .i64 i ∧ i ≤ N ∧ Hid (Below w.heap.size w wr)) (fun iv _ => N - (intOf iv).toNat)
  case atStart => exact ⟨0, rfl, Nat.zero_le _, Below.refl _ _⟩
  case round =>
    obtain ⟨i, rfl, hi, HW⟩ := hrel
    have h0 : (0 : Int) ≤ (i : Int) := by omega
    by_cases hlt : i < N
    · have h1 : (i : Int) < (N : Int) := by omega
      obtain ⟨z, hz⟩ : ∃ z, zs[i]? = some z := ⟨_, List.getElem?_eq_getElem (by rw [HL.out]; exact hlt)⟩
      obtain ⟨g, o, rfl, _⟩ := HA.out wr HW.out i z hz
      obtain ⟨g2, o2, rfl, _⟩ := HB.out wr HW.out i z hz
      have FA : Hid (∀ u, Below wr.heap.size wr u → u.cell? ⟨g, o + i, none⟩ = some (.int .i64 z) ∧ u.cell? ⟨g2, o2 + i, none⟩ = some (.int .i64 z)) := fun u hu => by
        have hb := HW.out.trans (hu.mono HW.out.size)
        obtain ⟨g', o', e1, h2⟩ := HA.out u hb i z hz
        obtain ⟨g2', o2', e2, h3⟩ := HB.out u hb i z hz
        cases e1
        cases e2
        exact ⟨h2, h3⟩
      clear hz
      go_wp2
      refine wp_region_noPanic ?_
      refine wp_region_held_drew (S := fun u => Below wr.heap.size wr u) (by kernel_rfl) ?_ (fun hHeld => ?_)
      · exact (Below.refl _ _).drew
      refine wpAnyH_take (i := 0) (v := ?_) rfl (by kernel_rfl) (by kernel_rfl) (by kernel_rfl) (fun _ _ _ h => h) (Or.inl ⟨by rfl, ?_⟩) hHeld ?_
      rotate_left
      · intro u hSu
        (go_simp) <;> (with_reducible rfl)
      change wpAnyH _ _ _ _ _ _ _ (Act.put _ (some 17) _) _
      simp only [Act.put, List.setIfInBounds_toArray, List.set_cons_zero, List.set_cons_succ]
      refine wpAnyH_take (i := 1) (v := ?_) rfl (by kernel_rfl) (by kernel_rfl) (by kernel_rfl) (fun _ _ _ h => h) (Or.inl ⟨by rfl, ?_⟩) hHeld ?_
      rotate_left
      · intro u hSu
        (go_simp) <;> (with_reducible rfl)
      change wpAnyH _ _ _ _ _ _ _ (Act.put _ (some 18) _) _
      simp only [Act.put, List.setIfInBounds_toArray, List.set_cons_zero, List.set_cons_succ]
      refine wpAnyH_take (i := 2) (v := ?_) rfl (by kernel_rfl) (by kernel_rfl) (by kernel_rfl) (fun _ _ _ h => h) (Or.inl ⟨by rfl, ?_⟩) hHeld ?_
      rotate_left
      · intro u hSu
        (go_simp) <;> (with_reducible rfl)
      change wpAnyH _ _ _ _ _ _ _ (Act.put _ (some 19) _) _
      simp only [Act.put, List.setIfInBounds_toArray, List.set_cons_zero, List.set_cons_succ]
      refine wpAnyH_take (i := 3) (v := ?_) rfl (by kernel_rfl) (by kernel_rfl) (by kernel_rfl) (fun _ _ _ h => h) (Or.inl ⟨by rfl, ?_⟩) hHeld ?_
      rotate_left
      · intro u hSu
        obtain ⟨f1, f2⟩ := FA.out u hSu
        (go_simp) <;> (with_reducible rfl)
      change wpAnyH _ _ _ _ _ _ _ (Act.put _ (some 20) _) _
      simp only [Act.put, List.setIfInBounds_toArray, List.set_cons_zero, List.set_cons_succ]
      refine wpAnyH_take (i := 4) (v := ?_) rfl (by kernel_rfl) (by kernel_rfl) (by kernel_rfl) (fun _ _ _ h => h) (Or.inl ⟨by rfl, ?_⟩) hHeld ?_
      rotate_left
      · intro u hSu
        (go_simp) <;> (with_reducible rfl)
      change wpAnyH _ _ _ _ _ _ _ (Act.put _ (some 21) _) _
      simp only [Act.put, List.setIfInBounds_toArray, List.set_cons_zero, List.set_cons_succ]
      refine wpAnyH_take (i := 5) (v := ?_) rfl (by kernel_rfl) (by kernel_rfl) (by kernel_rfl) (fun _ _ _ h => h) (Or.inl ⟨by rfl, ?_⟩) hHeld ?_
      rotate_left
      · intro u hSu
        (go_simp) <;> (with_reducible rfl)
      change wpAnyH _ _ _ _ _ _ _ (Act.put _ (some 22) _) _
      simp only [Act.put, List.setIfInBounds_toArray, List.set_cons_zero, List.set_cons_succ]
      refine wpAnyH_take (i := 6) (v := ?_) rfl (by kernel_rfl) (by kernel_rfl) (by kernel_rfl) (fun _ _ _ h => h) (Or.inl ⟨by rfl, ?_⟩) hHeld ?_
      rotate_left
      · intro u hSu
        (go_simp) <;> (with_reducible rfl)
      change wpAnyH _ _ _ _ _ _ _ (Act.put _ (some 23) _) _
      simp only [Act.put, List.setIfInBounds_toArray, List.set_cons_zero, List.set_cons_succ]
      refine wpAnyH_take (i := 7) (v := ?_) rfl (by kernel_rfl) (by kernel_rfl) (by kernel_rfl) (fun _ _ _ h => h) (Or.inl ⟨by rfl, ?_⟩) hHeld ?_
      rotate_left
      · intro u hSu
        obtain ⟨f1, f2⟩ := FA.out u hSu
        (go_simp) <;> (with_reducible rfl)
      change wpAnyH _ _ _ _ _ _ _ (Act.put _ (some 24) _) _
      simp only [Act.put, List.setIfInBounds_toArray, List.set_cons_zero, List.set_cons_succ]
      refine wpAnyH_take (i := 8) (v := ?_) rfl (by kernel_rfl) (by kernel_rfl) (by kernel_rfl) (fun _ _ _ h => h) (Or.inl ⟨by rfl, ?_⟩) hHeld ?_
      rotate_left
      · intro u hSu
        (go_simp) <;> (with_reducible rfl)
      change wpAnyH _ _ _ _ _ _ _ (Act.put _ (some 25) _) _
      simp only [Act.put, List.setIfInBounds_toArray, List.set_cons_zero, List.set_cons_succ]
      refine wpAnyH_done (by kernel_rfl) ?_ _
      refine NoPanic.normal ?_
      go_wp2
      go_roundw
      case rel => exact ⟨i + 1, by go_num, by omega, HW.out.drew⟩
      case measure => simp [intOf]; omega
    · obtain rfl : i = N := by omega
      go_wp2
      go_ret
      exact ⟨rfl, HW.out⟩
set_option maxHeartbeats 2000000 in
theorem cdsame64_any (a b : Option Addr) (N c d : Nat) (zs : List Int) (w : World) (hl : zs.length = N) (hc : N ≤ c) (hd : N ≤ d) (hN : N ≤ 1000000) (ha : RowI w a zs) (hb : RowI w b zs) :
    Calls Try.prog 19 #[.slice a N c, .slice b N d] w fun e w' => e = .returned (.bool true) ∧ Below w.heap.size w w' := by
  have HL : Hid (zs.length = N) := hl
  have HA : Hid (∀ u, Below w.heap.size w u → RowI u a zs) := fun u h => ha.past h
  have HB : Hid (∀ u, Below w.heap.size w u → RowI u b zs) := fun u h => hb.past h
  clear ha hb hl
  go_enter Try.func19, Try.ntmps19
  go_wp2
  go_loopw [5] (fun iv wr => ∃ i : Nat, iv = .int .i64 i ∧ i ≤ N ∧ Hid (Below w.heap.size w wr)) (fun iv _ => N - (intOf iv).toNat)
  case atStart => exact ⟨0, rfl, Nat.zero_le _, Below.refl _ _⟩
  case round =>
    obtain ⟨i, rfl, hi, HW⟩ := hrel
    have h0 : (0 : Int) ≤ (i : Int) := by omega
    by_cases hlt : i < N
    · have h1 : (i : Int) < (N : Int) := by omega
      obtain ⟨z, hz⟩ : ∃ z, zs[i]? = some z := ⟨_, List.getElem?_eq_getElem (by rw [HL.out]; exact hlt)⟩
      obtain ⟨g, o, rfl, _⟩ := HA.out wr HW.out i z hz
      obtain ⟨g2, o2, rfl, _⟩ := HB.out wr HW.out i z hz
      have FA : Hid (∀ u, Below wr.heap.size wr u → u.cell? ⟨g, o + i, none⟩ = some (.int .i64 z) ∧ u.cell? ⟨g2, o2 + i, none⟩ = some (.int .i64 z)) := fun u hu => by
        have hb := HW.out.trans (hu.mono HW.out.size)
        obtain ⟨g', o', e1, h2⟩ := HA.out u hb i z hz
        obtain ⟨g2', o2', e2, h3⟩ := HB.out u hb i z hz
        cases e1
        cases e2
        exact ⟨h2, h3⟩
      clear hz
      go_wp2
      refine wp_region_noPanic ?_
      refine wp_region_held_drew (S := fun u => Below wr.heap.size wr u) (by kernel_rfl) ?_ (fun hHeld => ?_)
      · exact (Below.refl _ _).drew
      refine wpAnyH_take (i := 0) (v := ?_) rfl (by kernel_rfl) (by kernel_rfl) (by kernel_rfl) (fun _ _ _ h => h) (Or.inl ⟨by rfl, ?_⟩) hHeld ?_
      rotate_left
      · intro u hSu
        (go_simp) <;> (with_reducible rfl)
      change wpAnyH _ _ _ _ _ _ _ (Act.put _ (some 17) _) _
      simp only [Act.put, List.setIfInBounds_toArray, List.set_cons_zero, List.set_cons_succ]
      refine wpAnyH_take (i := 1) (v := ?_) rfl (by kernel_rfl) (by kernel_rfl) (by kernel_rfl) (fun _ _ _ h => h) (Or.inl ⟨by rfl, ?_⟩) hHeld ?_
      rotate_left
      · intro u hSu
        (go_simp) <;> (with_reducible rfl)
      change wpAnyH _ _ _ _ _ _ _ (Act.put _ (some 18) _) _
      simp only [Act.put, List.setIfInBounds_toArray, List.set_cons_zero, List.set_cons_succ]
      refine wpAnyH_take (i := 2) (v := ?_) rfl (by kernel_rfl) (by kernel_rfl) (by kernel_rfl) (fun _ _ _ h => h) (Or.inl ⟨by rfl, ?_⟩) hHeld ?_
      rotate_left
      · intro u hSu
        (go_simp) <;> (with_reducible rfl)
      change wpAnyH _ _ _ _ _ _ _ (Act.put _ (some 19) _) _
      simp only [Act.put, List.setIfInBounds_toArray, List.set_cons_zero, List.set_cons_succ]
      refine wpAnyH_take (i := 3) (v := ?_) rfl (by kernel_rfl) (by kernel_rfl) (by kernel_rfl) (fun _ _ _ h => h) (Or.inl ⟨by rfl, ?_⟩) hHeld ?_
      rotate_left
      · intro u hSu
        obtain ⟨f1, f2⟩ := FA.out u hSu
        (go_simp) <;> (with_reducible rfl)
      change wpAnyH _ _ _ _ _ _ _ (Act.put _ (some 20) _) _
      simp only [Act.put, List.setIfInBounds_toArray, List.set_cons_zero, List.set_cons_succ]
      refine wpAnyH_take (i := 4) (v := ?_) rfl (by kernel_rfl) (by kernel_rfl) (by kernel_rfl) (fun _ _ _ h => h) (Or.inl ⟨by rfl, ?_⟩) hHeld ?_
      rotate_left
      · intro u hSu
        (go_simp) <;> (with_reducible rfl)
      change wpAnyH _ _ _ _ _ _ _ (Act.put _ (some 21) _) _
      simp only [Act.put, List.setIfInBounds_toArray, List.set_cons_zero, List.set_cons_succ]
      refine wpAnyH_take (i := 5) (v := ?_) rfl (by kernel_rfl) (by kernel_rfl) (by kernel_rfl) (fun _ _ _ h => h) (Or.inl ⟨by rfl, ?_⟩) hHeld ?_
      rotate_left
      · intro u hSu
        (go_simp) <;> (with_reducible rfl)
      change wpAnyH _ _ _ _ _ _ _ (Act.put _ (some 22) _) _
      simp only [Act.put, List.setIfInBounds_toArray, List.set_cons_zero, List.set_cons_succ]
      refine wpAnyH_take (i := 6) (v := ?_) rfl (by kernel_rfl) (by kernel_rfl) (by kernel_rfl) (fun _ _ _ h => h) (Or.inl ⟨by rfl, ?_⟩) hHeld ?_
      rotate_left
      · intro u hSu
        (go_simp) <;> (with_reducible rfl)
      change wpAnyH _ _ _ _ _ _ _ (Act.put _ (some 23) _) _
      simp only [Act.put, List.setIfInBounds_toArray, List.set_cons_zero, List.set_cons_succ]
      refine wpAnyH_take (i := 7) (v := ?_) rfl (by kernel_rfl) (by kernel_rfl) (by kernel_rfl) (fun _ _ _ h => h) (Or.inl ⟨by rfl, ?_⟩) hHeld ?_
      rotate_left
      · intro u hSu
        obtain ⟨f1, f2⟩ := FA.out u hSu
        (go_simp) <;> (with_reducible rfl)
      change wpAnyH _ _ _ _ _ _ _ (Act.put _ (some 24) _) _
      simp only [Act.put, List.setIfInBounds_toArray, List.set_cons_zero, List.set_cons_succ]
      refine wpAnyH_take (i := 8) (v := ?_) rfl (by kernel_rfl) (by kernel_rfl) (by kernel_rfl) (fun _ _ _ h => h) (Or.inl ⟨by rfl, ?_⟩) hHeld ?_
      rotate_left
      · intro u hSu
        (go_simp) <;> (with_reducible rfl)
      change wpAnyH _ _ _ _ _ _ _ (Act.put _ (some 25) _) _
      simp only [Act.put, List.setIfInBounds_toArray, List.set_cons_zero, List.set_cons_succ]
      refine wpAnyH_done (by kernel_rfl) ?_ _
      refine NoPanic.normal ?_
      go_wp2
      go_roundw
      case rel => exact ⟨i + 1, by go_num, by omega, HW.out.drew⟩
      case measure => simp [intOf]; omega
    · obtain rfl : i = N := by omega
      go_wp2
      go_ret
      exact ⟨rfl, HW.out⟩
theorem results_rowL {fn : Func} {c : Tmp} {T : TypeId} (h : fn.results = #[.cell c T]) (tmps : Array Value) (w : World) (b o : Nat) (cs : List Value) (d : TypeDesc) (hp : tmps.getD c undef = .pointer (some ⟨b, o, none⟩)) (hr : w.rangeAt b o cs) (hu : Try.prog.underlying T = some d) (hd : d.isRow = true) (hi : (Try.prog.info? T).map (·.size) = some cs.length) :
    (results fn tmps).run Try.prog w = .ok (.agg cs.toArray) w := by
  have hl := run_loadVar_mid (P := Try.prog) w b o T cs d hr hu hd hi
  unfold results
  rw [h]
  simp only [List.mapM_toArray, List.mapM_cons, List.mapM_nil, hp]
  simp [asAddr, hl]
theorem range_madeL (w : World) (cs : List Value) (T : TypeId) : (w.alloc (.cells cs.toArray T)).rangeAt w.heap.size 0 cs := by
  intro j v hv
  rw [Nat.zero_add, World.cell?_alloc_new]
  simpa using hv
theorem cdatt_any (t : Int) (w : World) :
    Calls Try.prog 10 #[.int .i64 t] w fun e w' => e = .returned (.agg #[.int .i64 t, .int .u8 0]) ∧ Below w.heap.size w w' := by
  go_enter Try.func10, Try.ntmps10
  go_wp2
  refine bodyPost_ret (results_rowL rfl _ _ w.heap.size 0 [.int .i64 t, .int .u8 0] _ rfl (range_madeL w _ _) Try.underlying28 rfl (by kernel_rfl)) rfl ?_
  exact ⟨rfl, (Below.refl _ _).alloc (Nat.le_refl _) _⟩
/-- A landed Coord of the call's own, beside blocks F that stay. -/
structure CdF (w u : World) (b : Nat) (C : List DecC) (F : Foot) : Prop where
  out : ∃ X, CoD u b C X ∧ (∀ k, X k → w.heap.size ≤ k) ∧ ∀ k, F k → ¬ X k
  below : Below w.heap.size w u
  flt : ∀ k, F k → k < u.heap.size
theorem CdF.tbl {w u : World} {b : Nat} {C : List DecC} {F : Foot} (h : CdF w u b C F) : TblC C := by obtain ⟨X, h1, _⟩ := h.out; exact h1.tbl
theorem CdF.past {w u u' : World} {b : Nat} {C : List DecC} {F : Foot} (h : CdF w u b C F) (hb : Below u.heap.size u u') : CdF w u' b C F := by
  obtain ⟨X, h1, h2, h3⟩ := h.out
  exact ⟨⟨X, h1.past hb, h2, h3⟩, h.below.trans (hb.mono h.below.size), fun k hk => Nat.lt_of_lt_of_le (h.flt k hk) hb.size⟩
/-- Blocks of F have been written; new ones are there, that stay too. -/
theorem CdF.own {w u u' : World} {b : Nat} {C : List DecC} {F F' : Foot} (h : CdF w u b C F) (hc : Chg u u' F) (hF : ∀ k, F k → w.heap.size ≤ k) (hn : ∀ k, F' k → (F k ∨ u.heap.size ≤ k) ∧ k < u'.heap.size) : CdF w u' b C F' := by
  obtain ⟨X, h1, h2, h3⟩ := h.out
  refine ⟨⟨X, h1.kept hc.size (fun k hk => hc.block k (h1.lt k hk) (fun hf => h3 k hf hk)), h2, fun k hk hx => ?_⟩, h.below.trans (hc.below h.below.size hF), fun k hk => (hn k hk).2⟩
  rcases (hn k hk).1 with e | e
  · exact h3 k e hx
  · have := h1.lt k hx; omega
theorem CdF.more {w u u' : World} {b : Nat} {C : List DecC} {F F' : Foot} (h : CdF w u b C F) (hb : Below u.heap.size u u') (hn : ∀ k, F' k → (F k ∨ u.heap.size ≤ k) ∧ k < u'.heap.size) : CdF w u' b C F' := by
  obtain ⟨X, h1, h2, h3⟩ := h.out
  refine ⟨⟨X, h1.past hb, h2, fun k hk hx => ?_⟩, h.below.trans (hb.mono h.below.size), fun k hk => (hn k hk).2⟩
  rcases (hn k hk).1 with e | e
  · exact h3 k e hx
  · have := h1.lt k hx; omega
theorem CdF.less {w u : World} {b : Nat} {C : List DecC} {F F' : Foot} (h : CdF w u b C F) (hn : ∀ k, F' k → F k) : CdF w u b C F' := by
  obtain ⟨X, h1, h2, h3⟩ := h.out
  exact ⟨⟨X, h1, h2, fun k hk => h3 k (hn k hk)⟩, h.below, fun k hk => h.flt k (hn k hk)⟩
/-- What a call leaves. -/
structure CdS (w u u' : World) (b : Nat) (C' : List DecC) (F : Foot) : Prop where
  at_ : CdF w u' b C' F
  stay : ∀ k, F k → u'.heap[k]? = u.heap[k]?
  size : u.heap.size ≤ u'.heap.size
theorem CdF.did {w u u' : World} {b : Nat} {C C' : List DecC} {F : Foot} {X : Foot} (h : CdF w u b C F) (h1 : CoD u b C X) (h2 : ∀ k, X k → w.heap.size ≤ k) (h3 : ∀ k, F k → ¬ X k) (hd : DidC u u' b C' X) : CdS w u u' b C' F := by
  obtain ⟨X', k1, k2⟩ := hd.out
  refine ⟨⟨⟨X', k1, fun k hk => ?_, fun k hf hx => ?_⟩, h.below.trans (k2.chg.below h.below.size h2), fun k hk => Nat.lt_of_lt_of_le (h.flt k hk) k2.chg.size⟩, fun k hk => k2.chg.block k (h.flt k hk) (h3 k hk), k2.chg.size⟩
  · rcases (k2.new k hk).1 with e | e
    · exact h2 k e
    · exact Nat.le_trans h.below.size e
  · rcases (k2.new k hx).1 with e | e
    · exact h3 k hf e
    · have := h.flt k hf; omega
theorem cdf_new (w : World) : Calls Try.prog 8 #[] w fun e w' => ∃ b, e = .returned (.pointer (some ⟨b, 0, none⟩)) ∧ CdF w w' b [] noFoot ∧ w.heap.size ≤ b := by
  refine (cdnew_any w).mono ?_
  rintro e w' ⟨b, X, h1, h2, h3, h4, h5⟩
  exact ⟨b, h1, ⟨⟨X, h2, h3, fun k hk => hk.elim⟩, h5, fun k hk => hk.elim⟩, h4⟩
theorem CdF.begin {w u : World} {b : Nat} {C C' : List DecC} {F : Foot} (h : CdF w u b C F) {id st sn r : Int} {a : Option Addr} {N c : Nat} {l : List Int} (he : beginC C id st sn l = (r, C')) (hi : I64 id) (hl : l.length = N) (hN : N ≤ 1000) (hc : N ≤ c) (hat : IntsAt u a l) (hf : C.length ≤ 100000) :
    Calls Try.prog 9 #[.pointer (some ⟨b, 0, none⟩), .int .i64 id, .agg #[.int .i64 st, .int .u8 sn], .slice a N c] u fun e w' => e = .returned (.int .i64 r) ∧ CdS w u w' b C' F := by
  obtain ⟨X, h1, h2, h3⟩ := h.out
  refine (cdbegin_any b C X id st sn a N c l u h1 hi hl hN hc hat hf).mono ?_
  rintro e w' ⟨e1, e2⟩
  rw [he] at e1 e2
  exact ⟨e1, h.did h1 h2 h3 e2⟩
theorem CdF.vote {w u : World} {b : Nat} {C C' : List DecC} {F : Foot} (h : CdF w u b C F) {id p t n r : Int} {y : Bool} (he : voteC C id p y t n = (r, C')) (hi : I64 id) (hn : 0 ≤ n ∧ n ≤ 255) :
    Calls Try.prog 11 #[.pointer (some ⟨b, 0, none⟩), .int .i64 id, .int .i64 p, .bool y, .agg #[.int .i64 t, .int .u8 n]] u fun e w' => e = .returned (.int .i64 r) ∧ CdS w u w' b C' F := by
  obtain ⟨X, h1, h2, h3⟩ := h.out
  refine (cdvotes_any b C X id p y t n u h1 hi hn).mono ?_
  rintro e w' ⟨e1, e2⟩
  rw [he] at e1 e2
  exact ⟨e1, h.did h1 h2 h3 e2⟩
theorem CdF.ack {w u : World} {b : Nat} {C C' : List DecC} {F : Foot} (h : CdF w u b C F) {id p r : Int} (he : ackC C id p = (r, C')) (hi : I64 id) :
    Calls Try.prog 12 #[.pointer (some ⟨b, 0, none⟩), .int .i64 id, .int .i64 p] u fun e w' => e = .returned (.int .i64 r) ∧ CdS w u w' b C' F := by
  obtain ⟨X, h1, h2, h3⟩ := h.out
  refine (cdack_any b C X id p u h1 hi).mono ?_
  rintro e w' ⟨e1, e2⟩
  rw [he] at e1 e2
  exact ⟨e1, h.did h1 h2 h3 e2⟩
theorem CdF.give {w u : World} {b : Nat} {C C' : List DecC} {F : Foot} (h : CdF w u b C F) {id r : Int} {y : Bool} (he : giveC C id = ((y, r), C')) (hi : I64 id) :
    Calls Try.prog 16 #[.pointer (some ⟨b, 0, none⟩), .int .i64 id] u fun e w' => e = .returned (.tuple #[.bool y, .int .i64 r]) ∧ CdS w u w' b C' F := by
  obtain ⟨X, h1, h2, h3⟩ := h.out
  refine (cdgive_any b C X id u h1 hi).mono ?_
  rintro e w' ⟨e1, e2⟩
  rw [he] at e1 e2
  exact ⟨e1, h.did h1 h2 h3 e2⟩
theorem CdF.play {w u : World} {b : Nat} {C C' : List DecC} {F : Foot} (h : CdF w u b C F) {x : RcM} {r : Int} (he : playC C x.r = (r, C')) (hx : RcW u x) (hf : C.length ≤ 100000) :
    Calls Try.prog 15 #[.pointer (some ⟨b, 0, none⟩), rcv x] u fun e w' => e = .returned (.int .i64 r) ∧ CdS w u w' b C' F := by
  obtain ⟨X, h1, h2, h3⟩ := h.out
  refine (cdplay_any b C X x u h1 hx hf).mono ?_
  rintro e w' ⟨e1, e2⟩
  rw [he] at e1 e2
  exact ⟨e1, h.did h1 h2 h3 e2⟩
theorem CdF.decision {w u : World} {b : Nat} {C : List DecC} {F : Foot} (h : CdF w u b C F) {id t n : Int} {k y : Bool} (he : decC C id = (k, y, t, n)) (hi : I64 id) :
    Calls Try.prog 13 #[.pointer (some ⟨b, 0, none⟩), .int .i64 id] u fun e w' => e = .returned (.tuple #[.bool k, .bool y, .agg #[.int .i64 t, .int .u8 n]]) ∧ Below u.heap.size u w' := by
  obtain ⟨X, h1, _⟩ := h.out
  refine (cddecision_any b C X id u h1 hi).mono ?_
  rintro e w' ⟨e1, e2⟩
  rw [he] at e1
  exact ⟨e1, e2⟩
theorem CdF.owes {w u : World} {b : Nat} {C : List DecC} {F : Foot} (h : CdF w u b C F) {id : Int} {l : List Int} (he : owesC C id = l) (hi : I64 id) :
    Calls Try.prog 30 #[.pointer (some ⟨b, 0, none⟩), .int .i64 id] u fun e w' => ∃ a n c, e = .returned (.slice a n c) ∧ l.length = n ∧ n ≤ c ∧ RowI w' a l ∧ Below u.heap.size u w' := by
  obtain ⟨X, h1, _⟩ := h.out
  refine (cdowes_any b C X id u h1 hi).mono ?_
  rintro e w' ⟨⟨a, n, c, e1, e2, e3, e4⟩, e5⟩
  rw [he] at e2 e4
  exact ⟨a, n, c, e1, e2, e3, e4.rowI, e5⟩
theorem CdF.opens {w u : World} {b : Nat} {C : List DecC} {F : Foot} (h : CdF w u b C F) {l : List Int} (he : openC C = l) (hf : C.length ≤ 100000) :
    Calls Try.prog 18 #[.pointer (some ⟨b, 0, none⟩)] u fun e w' => ∃ a n c, e = .returned (.slice a n c) ∧ l.length = n ∧ n ≤ c ∧ RowI w' a l ∧ Below u.heap.size u w' := by
  obtain ⟨X, h1, _⟩ := h.out
  refine (cdopen_any b C X u h1 hf).mono ?_
  rintro e w' ⟨⟨a, n, c, e1, e2, e3, e4⟩, e5⟩
  rw [he] at e2 e4
  exact ⟨a, n, c, e1, e2, e3, e4.rowI, e5⟩
theorem CdF.recordN {w u : World} {b : Nat} {C : List DecC} {F : Foot} (h : CdF w u b C F) {id : Int} {r : Option Rcd} (he : recC C id = r) (hi : I64 id) :
    Calls Try.prog 14 #[.pointer (some ⟨b, 0, none⟩), .int .i64 id] u fun e w' => ∃ x : RcM, e = .returned (.tuple #[rcv x, .bool r.isSome]) ∧ x.r = r.getD noRcd.r ∧ RcW w' x ∧ Below u.heap.size u w' ∧ ∀ g o, x.pa = some ⟨g, o, none⟩ → u.heap.size ≤ g := by
  obtain ⟨X, h1, _⟩ := h.out
  refine (cdrecord_any b C X id u h1 hi).mono ?_
  rintro e w' ⟨⟨x, e1, e2, e3, e4⟩, e5⟩
  rw [he] at e1 e2
  exact ⟨x, e1, e2, e3, e5, e4⟩
theorem CdF.record {w u : World} {b : Nat} {C : List DecC} {F : Foot} (h : CdF w u b C F) {id : Int} {r : Option Rcd} (he : recC C id = r) (hi : I64 id) :
    Calls Try.prog 14 #[.pointer (some ⟨b, 0, none⟩), .int .i64 id] u fun e w' => ∃ x : RcM, e = .returned (.tuple #[rcv x, .bool r.isSome]) ∧ x.r = r.getD noRcd.r ∧ RcW w' x ∧ Below u.heap.size u w' :=
  (h.recordN he hi).mono fun e w' ⟨x, e1, e2, e3, e4, _⟩ => ⟨x, e1, e2, e3, e4⟩
end Go.Proofs.Ytcppihpehipelaa
