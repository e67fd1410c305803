/-
  What the document's own disks (hourglassref8: Read, Sync, On, Cut of a Disk) answer and leave.
-/
import Derived.Test.YtlfmhdljldbjmaaRefDisk2
import Derived.BigRegion
namespace Go.Proofs.Ytlfmhdljldbjmaa
open Go.RowKit
set_option linter.unusedVariables false

theorem file_at {fs : List FileV} {i : Nat} {f : FileV} (h : fs[i]? = some f) : fileAt fs i = f := by simp [fileAt, List.getD, h]
theorem setF_same {fs : List FileV} {i : Nat} {f f' : FileV} (h : fs[i]? = some f) : (setF fs i f')[i]? = some f' := by
  have := (List.getElem?_eq_some_iff.1 h).1
  simp [setF, this]
theorem setF_other {fs : List FileV} {i j : Nat} {f' : FileV} (h : j ≠ i) : (setF fs i f')[j]? = fs[j]? := by
  simp [setF, List.getElem?_set]
  intro e; exact absurd e.symm h
theorem setF_len (fs : List FileV) (i : Nat) (f' : FileV) : (setF fs i f').length = fs.length := by simp [setF]
theorem setF_mem {fs : List FileV} {i : Nat} {f' x : FileV} (h : x ∈ setF fs i f') : x = f' ∨ x ∈ fs := by
  unfold setF at h
  rcases List.mem_or_eq_of_mem_set h with h | h
  · exact .inr h
  · exact .inl h
/-- One file of a disk has turned. -/
theorem DiskR.turn {u u' : World} {b g i : Nat} {S : DS} {X X' : Foot} {f f' : FileV} {cap : Nat} (h : DiskR u b S X) (hc1 : u.cell? ⟨b, 1, none⟩ = some (.slice (some ⟨g, 0, none⟩) S.fs.length cap)) (hgb : g ≠ b) (hXg : X g)
    (hcap : S.fs.length ≤ cap) (hall : ∀ j x, S.fs[j]? = some x → FileR u b g (j * 3) x X) (hif : S.fs[i]? = some f) (hX : ∀ k, X k → X' k) (hX' : ∀ k, X' k → k < u'.heap.size)
    (hk : ∀ k, X k → k ≠ g → u'.heap[k]? = u.heap[k]?) (hcells : ∀ j o, j ≠ i → o < 3 → u'.cell? ⟨g, j * 3 + o, none⟩ = u.cell? ⟨g, j * 3 + o, none⟩) (hfree : ∀ j, u'.frozen? ⟨g, j, none⟩ = false)
    (hf' : FileR u' b g (i * 3) f' X') (h1 : f'.safe ≤ f'.b.length) (h2 : By f'.b) (h3 : mayN f'.name = true) : DiskR u' b { S with fs := setF S.fs i f' } X' := by
  have hb := hk b h.own (fun e => hgb e.symm)
  refine ⟨hX b h.own, hX', (cell_kept hb _).trans h.c0, (cell_kept hb _).trans h.c2, (cell_kept hb _).trans h.c3, fun j => (frozen_kept hb _).trans (h.free j), .inr ⟨g, cap, ?_, ?_, hX g hXg, hgb, hfree, fun j x hx => ?_⟩, ⟨fun x hx => ?_, fun x hx => ?_, fun x hx => ?_⟩, ?_⟩
  · rw [setF_len]; exact (cell_kept hb _).trans hc1
  · rw [setF_len]; exact hcap
  · by_cases hj : j = i
    · subst hj
      have := setF_same (f' := f') hif
      rw [this] at hx
      injection hx with hx
      subst hx; exact hf'
    · have e : (setF S.fs i f')[j]? = S.fs[j]? := setF_other hj
      rw [e] at hx
      obtain ⟨x0, ⟨a, c, y1, y2⟩, x2⟩ := hall j x hx
      exact ⟨(hcells j 0 hj (by omega)).trans x0, ⟨a, c, (hcells j 1 hj (by omega)).trans y1, y2.kept (fun k x1 x2 _ => hk k x1 x2) hX⟩, (hcells j 2 hj (by omega)).trans x2⟩
  · rcases setF_mem hx with rfl | hx
    · exact h1
    · exact h.good.safe x hx
  · rcases setF_mem hx with rfl | hx
    · exact h2
    · exact h.good.bytes x hx
  · rcases setF_mem hx with rfl | hx
    · exact h3
    · exact h.good.names x hx
  · show (setF S.fs i f').length ≤ 1000; rw [setF_len]; exact h.few
/-- The disk whose file is there. -/
theorem err_zero {S : DS} {s : List Int} (h : S.err s = 0) : S.off = false ∧ mayN s = true ∧ ∃ i f, findN S.fs s = some i ∧ S.fs[i]? = some f ∧ f.name = s := by
  unfold DS.err at h
  split at h
  · omega
  · rename_i h0
    split at h
    · omega
    · rename_i h1
      refine ⟨by simpa using h0, by simpa using h1, ?_⟩
      cases hf : findN S.fs s with
      | none => rw [hf] at h; simp at h
      | some i =>
        have hlt := find_lt S.fs s i hf
        refine ⟨i, S.fs[i], rfl, List.getElem?_eq_getElem hlt, ?_⟩
        clear h h0 h1
        generalize S.fs = fs at hf hlt ⊢
        induction fs generalizing i with
        | nil => simp at hlt
        | cons g r ih =>
          unfold findN at hf
          split at hf
          · rename_i e; simp at hf; subst hf; exact e
          · cases hr : findN r s with
            | none => rw [hr] at hf; simp at hf
            | some j =>
              rw [hr] at hf
              simp at hf
              subst hf
              simpa using ih j hr (find_lt r s j hr)
theorem err_codes (S : DS) (s : List Int) : S.err s = 0 ∨ (S.err s ≠ 0 ∧ (S.err s = 7 ∨ S.err s = 1 ∨ S.err s = 4)) := by
  unfold DS.err
  (repeat' split) <;> simp
theorem place_zero {S : DS} {s : List Int} {i : Nat} (h0 : S.off = false) (h1 : mayN s = true) (hf : findN S.fs s = some i) : S.place s = (i : Int) := by
  unfold DS.place; rw [h0, h1, hf]; rfl
theorem ron_any (b : Nat) (S : DS) (X : Foot) (w : World) (h : DiskR w b S X) (hl : S.lives ≤ 1000000000) (hl0 : 0 ≤ S.lives) :
    Calls Try.prog 25 #[.pointer (some ⟨b, 0, none⟩)] w fun e w' => e = .returned (.tuple #[]) ∧ DiskR w' b S.on X ∧ Did w w' X X := by
  have c2 := h.c2
  have c3 := h.c3
  have f2 := h.free 2
  have f3 := h.free 3
  have d3 : (w.setCell ⟨b, 2, none⟩ (.bool false)).cell? ⟨b, 3, none⟩ = some (.int .i64 S.lives) := (World.cell?_setCell_other _ _ _ _ (by intro e; injection e with _ e2; omega)).trans c3
  have HD : Hid (DiskR w b S X) := h
  clear h
  go_enter Try.func25, Try.ntmps25
  go_wp2
  go_end0
  have h := HD.out
  have hne : ∀ k, X k → k ≠ b → ((w.setCell ⟨b, 2, none⟩ (.bool false)).setCell ⟨b, 3, none⟩ (.int .i64 (S.lives + 1))).heap[k]? = w.heap[k]? := fun k _ hk => (Below.heap_setCell _ ⟨b, 3, none⟩ _ k hk).trans (Below.heap_setCell _ ⟨b, 2, none⟩ _ k hk)
  have oth : ∀ j, j ≠ 2 → j ≠ 3 → ((w.setCell ⟨b, 2, none⟩ (.bool false)).setCell ⟨b, 3, none⟩ (.int .i64 (S.lives + 1))).cell? ⟨b, j, none⟩ = w.cell? ⟨b, j, none⟩ := fun j h2 h3 => (World.cell?_setCell_other _ _ _ _ (by intro e; injection e with _ e2; omega)).trans (World.cell?_setCell_other _ _ _ _ (by intro e; injection e with _ e2; omega))
  refine ⟨rfl, ⟨h.own, fun k hk => by rw [World.size_setCell, World.size_setCell]; exact h.lt k hk, (oth 0 (by omega) (by omega)).trans h.c0, ?_, World.cell?_setCell_same _ _ _ d3, fun j => by rw [World.frozen?_setCell, World.frozen?_setCell]; exact h.free j, ?_, ⟨h.good.safe, h.good.bytes, h.good.names⟩, h.few⟩, Did.same ((Chg.set w ⟨b, 2, none⟩ _ h.own).trans (Chg.set _ ⟨b, 3, none⟩ _ h.own) (fun _ _ x => x)) h.lt⟩
  · exact (World.cell?_setCell_other _ _ _ _ (by intro e; injection e with _ e2; omega)).trans (World.cell?_setCell_same _ _ _ c2)
  · refine h.list.imp (fun ⟨x, y⟩ => ⟨(oth 1 (by omega) (by omega)).trans x, y⟩) ?_
    rintro ⟨g, cap, x1, x2, x3, x4, x5, x6⟩
    refine ⟨g, cap, (oth 1 (by omega) (by omega)).trans x1, x2, x3, x4, fun j => by rw [World.frozen?_setCell, World.frozen?_setCell]; exact x5 j, fun i f hf => ?_⟩
    obtain ⟨y0, ⟨a, c, z1, z2⟩, y2⟩ := x6 i f hf
    have hg := hne g x3 x4
    exact ⟨(cell_kept hg _).trans y0, ⟨a, c, (cell_kept hg _).trans z1, z2.kept (fun k x1 _ x3 => hne k x1 x3) (fun _ x => x)⟩, (cell_kept hg _).trans y2⟩
theorem DiskR.drew {u : World} {b : Nat} {S : DS} {X : Foot} (h : DiskR u b S X) : DiskR u.drew b S X := h.kept (Nat.le_refl _) (fun _ _ => rfl)
theorem Did.drew {u u' : World} {X X' : Foot} (h : Did u u' X X') : Did u u'.drew X X' := ⟨h.chg.drew, h.new⟩
/-- A list's cells lie in X. -/
structure RowX (u : World) (a : Option Addr) (c : Nat) (zs : List Int) (X : Foot) : Prop where
  row : Row u a zs
  le : zs.length ≤ c
  nil : a = none → c = 0
  own : zs = [] ∨ ∀ ad, a = some ad → X ad.block
set_option maxHeartbeats 1000000 in
theorem rdread_any (b : Nat) (S : DS) (X : Foot) (s : List Int) (w : World) (h : DiskR w b S X) (hs : By s) (hl : s.length ≤ 1000000) :
    Calls Try.prog 30 #[.pointer (some ⟨b, 0, none⟩), .string (strOfNums s)] w fun e w' => ∃ a c, e = .returned (.tuple #[.slice a (S.read s).2.length c, .int .i64 (S.read s).1]) ∧ w' = w ∧ RowX w a c (S.read s).2 X := by
  have CA : Hid (Calls Try.prog 51 #[.pointer (some ⟨b, 0, none⟩), .string (strOfNums s)] w fun e w' => e = .returned (.tuple #[.int .i64 (S.place s), .int .i64 (S.err s)]) ∧ w' = w) := rask_any b S X s w h hs hl
  rcases err_codes S s with h0 | ⟨h0, hcode⟩
  · obtain ⟨ho, hm, i, f, hf, hif, hfn⟩ := err_zero h0
    rw [h0, place_zero ho hm hf] at CA
    have e : S.read s = (0, f.b) := by unfold DS.read; rw [if_pos h0, hf]; simp [file_at hif]
    rw [e]
    obtain ⟨a, cap, c1, hcap, _, hall⟩ := h.lst
    obtain ⟨g, rfl, hXg, hgb, _, hr⟩ := hall i f hif
    obtain ⟨aa, c, k1, k2⟩ := hr.c1
    have hil : i < S.fs.length := (List.getElem?_eq_some_iff.1 hif).1
    have hfew := h.few
    obtain ⟨N, hN⟩ : ∃ N, N = S.fs.length := ⟨_, rfl⟩
    rw [← hN] at c1 hcap hil hfew
    have HX : Hid (RowX w aa c f.b X) := ⟨k2.row, k2.le, k2.nil, .inr (fun ad e => by obtain ⟨bb, e2, x1, _⟩ := k2.own ad e; rw [e2]; exact x1)⟩
    obtain ⟨M, hM⟩ : ∃ M, M = f.b.length := ⟨_, rfl⟩
    have HM : Hid (M = f.b.length) := hM
    rw [← hM] at k1
    show Calls _ _ _ _ fun e w' => ∃ a c, e = .returned (.tuple #[.slice a f.b.length c, .int .i64 0]) ∧ w' = w ∧ RowX w a c f.b X
    rw [← hM]
    clear hr k2 hall h hN e hif hM h0 hf ho hm
    go_enter Try.func30, Try.ntmps30
    go_wp2_with (go_at_call 51; refine CA.out.mono ?_; rintro e w' ⟨rfl, rfl⟩)
    go_returns
    exact ⟨_, _, rfl, rfl, HX.out⟩
  · have e : S.read s = (S.err s, []) := by unfold DS.read; rw [if_neg h0]
    rw [e]
    obtain ⟨E, hE⟩ : ∃ E, E = S.err s := ⟨_, rfl⟩
    obtain ⟨P, hP⟩ : ∃ P, P = S.place s := ⟨_, rfl⟩
    rw [← hE] at h0 CA ⊢
    rw [← hP] at CA
    have hb : (E != 0) = true := by simpa using h0
    clear h e hcode hE hP
    go_enter Try.func30, Try.ntmps30
    go_wp2_with (go_at_call 51; refine CA.out.mono ?_; rintro e w' ⟨rfl, rfl⟩)
    go_returns
    exact ⟨none, 0, rfl, rfl, Row.nil _ _, Nat.le_refl _, fun _ => rfl, .inl rfl⟩
set_option maxHeartbeats 1000000 in
theorem rdsync_any (b : Nat) (S : DS) (X : Foot) (s : List Int) (w : World) (h : DiskR w b S X) (hs : By s) (hl : s.length ≤ 1000000) :
    Calls Try.prog 46 #[.pointer (some ⟨b, 0, none⟩), .string (strOfNums s)] w fun e w' => e = .returned (.int .i64 (S.sync s).1) ∧ DiskR w' b (S.sync s).2 X ∧ Did w w' X X := by
  have CA : Hid (Calls Try.prog 51 #[.pointer (some ⟨b, 0, none⟩), .string (strOfNums s)] w fun e w' => e = .returned (.tuple #[.int .i64 (S.place s), .int .i64 (S.err s)]) ∧ w' = w) := rask_any b S X s w h hs hl
  rcases err_codes S s with h0 | ⟨h0, hcode⟩
  · obtain ⟨ho, hm, i, f, hf, hif, hfn⟩ := err_zero h0
    rw [h0, place_zero ho hm hf] at CA
    have e : S.sync s = (0, { S with fs := setF S.fs i { f with safe := f.b.length } }) := by unfold DS.sync; rw [if_pos h0, hf]; simp [file_at hif]
    rw [e]
    rcases h.list with ⟨_, h2⟩ | ⟨g, cap, c1, hcap, hXg, hgb, hfree, hall⟩
    · rw [h2] at hif; simp at hif
    have hr := hall i f hif
    obtain ⟨aa, c, k1, k2⟩ := hr.c1
    have k0 := hr.c2
    have fz := hfree (i * 3 + 2)
    have hil : i < S.fs.length := (List.getElem?_eq_some_iff.1 hif).1
    have hfew := h.few
    have HT : Hid (DiskR (w.setCell ⟨g, i * 3 + 2, none⟩ (.int .i64 (f.b.length : Nat))) b { S with fs := setF S.fs i { f with safe := f.b.length } } X) := by
      refine h.turn (f' := { f with safe := f.b.length }) c1 hgb hXg hcap hall hif (fun _ x => x) (fun k x => by rw [World.size_setCell]; exact h.lt k x) (fun k _ hk => Below.heap_setCell _ ⟨g, i * 3 + 2, none⟩ _ k hk) (fun j o hj ho => World.cell?_setCell_other _ _ _ _ (by intro e; injection e with _ e2; omega)) (fun j => by rw [World.frozen?_setCell]; exact hfree j) ?_ (Nat.le_refl _) (h.good.bytes f (List.mem_of_getElem? hif)) (h.good.names f (List.mem_of_getElem? hif))
      exact ⟨(World.cell?_setCell_other _ _ _ _ (by intro e; injection e with _ e2; omega)).trans hr.c0, ⟨aa, c, (World.cell?_setCell_other _ _ _ _ (by intro e; injection e with _ e2; omega)).trans k1, k2.kept (fun k _ x2 _ => Below.heap_setCell w ⟨g, i * 3 + 2, none⟩ _ k x2) (fun _ x => x)⟩, World.cell?_setCell_same _ _ _ k0⟩
    have HC : Hid (Did w (w.setCell ⟨g, i * 3 + 2, none⟩ (.int .i64 (f.b.length : Nat))) X X) := Did.same (Chg.set w ⟨g, i * 3 + 2, none⟩ _ hXg) h.lt
    obtain ⟨N, hN⟩ : ∃ N, N = S.fs.length := ⟨_, rfl⟩
    rw [← hN] at c1 hcap hil hfew
    obtain ⟨S', hS'⟩ : ∃ S', S' = ({ S with fs := setF S.fs i { f with safe := f.b.length } } : DS) := ⟨_, rfl⟩
    rw [← hS'] at HT ⊢
    obtain ⟨M, hM⟩ : ∃ M, M = f.b.length := ⟨_, rfl⟩
    rw [← hM] at HT HC k1
    show Calls _ _ _ _ fun e w' => e = .returned (.int .i64 0) ∧ DiskR w' b S' X ∧ Did w w' X X
    clear hr k2 hall h hN e hif hM h0 hf ho hm hfree hS'
    go_enter Try.func46, Try.ntmps46
    go_wp2_with (go_at_call 51; refine CA.out.mono ?_; rintro e w' ⟨rfl, rfl⟩)
    go_region
    go_wp2
    go_ret
    exact ⟨rfl, HT.out.drew, HC.out.drew⟩
  · have e : S.sync s = (S.err s, S) := by unfold DS.sync; rw [if_neg h0]
    rw [e]
    obtain ⟨E, hE⟩ : ∃ E, E = S.err s := ⟨_, rfl⟩
    obtain ⟨P, hP⟩ : ∃ P, P = S.place s := ⟨_, rfl⟩
    rw [← hE] at h0 CA ⊢
    rw [← hP] at CA
    have hb : (E == 0) = false := by simpa using h0
    have HD : Hid (DiskR w b S X) := h
    clear h e hcode hE hP
    go_enter Try.func46, Try.ntmps46
    go_wp2_with (go_at_call 51; refine CA.out.mono ?_; rintro e w' ⟨rfl, rfl⟩)
    go_ret
    exact ⟨rfl, HD.out, Did.stay (Below.refl _ _) HD.out.lt⟩
end Go.Proofs.Ytlfmhdljldbjmaa
