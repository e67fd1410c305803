/-
  What OpenWal of the document's own logs answers and leaves.
-/
import Derived.Test.YtlfmhdljldbjmaaRefWal3
namespace Go.Proofs.Ytlfmhdljldbjmaa
open Go.RowKit
set_option linter.unusedVariables false

theorem scan_facts : ∀ (n : Nat) (zs : List Int), zs.length ≤ n → By zs → (scanN zs).2.1 ≤ zs.length ∧ ((scanN zs).2.2 = true → (scanN zs).2.1 = zs.length) ∧ (∀ r ∈ (scanN zs).1, By r) ∧ (scanN zs).1.length ≤ zs.length
  | 0, zs, h, hb => by
    have e : zs = [] := List.eq_nil_of_length_eq_zero (by omega)
    subst e
    rw [scan_nil]
    exact ⟨Nat.le_refl _, fun _ => rfl, fun r hr => by simp at hr, Nat.le_refl _⟩
  | n + 1, zs, h, hb => by
    by_cases h0 : zs = []
    · subst h0
      rw [scan_nil]
      exact ⟨Nat.le_refl _, fun _ => rfl, fun r hr => by simp at hr, Nat.le_refl _⟩
    · cases ht : takeN zs with
      | none =>
        rw [scan_none h0 ht]
        exact ⟨Nat.zero_le _, (fun e => by cases e), (fun r hr => by simp at hr), Nat.zero_le _⟩
      | some r =>
        obtain ⟨t1, t2, t3⟩ := take_some ht
        obtain ⟨i1, i2, i3, i4⟩ := scan_facts n (zs.drop (12 + r.length)) (by rw [List.length_drop]; omega) (By.drop hb _)
        rw [List.length_drop] at i1 i2 i4
        rw [scan_some ht]
        refine ⟨by show 12 + r.length + _ ≤ _; omega, fun e => by have := i2 e; show 12 + r.length + _ = _; omega, fun x hx => ?_, by show _ + 1 ≤ _; omega⟩
        rcases List.mem_cons.1 hx with rfl | hx
        · exact take_by hb ht
        · exact i3 x hx
theorem own_lower {w : World} {base base' n e size : Nat} {v : Value} {xs : List Value} (h : w.ownsRow base e size v n xs) (hb : base' ≤ base) : w.ownsRow base' e size v n xs :=
  ⟨h.1, h.2.elim Or.inl (fun ⟨g, cap, cur, hv, hg, r⟩ => Or.inr ⟨g, cap, cur, hv, Nat.le_trans hb hg, r⟩)⟩
theorem RecZ.of_own {u : World} {B base p n cx : Nat} {ax : Option Addr} {L : List (List Int)} {Z : Foot} (h : OwnRows u base (.slice ax n cx) n L) (hB : B ≤ base) (hp : p < base) (hZ : ∀ k, base ≤ k → k < u.heap.size → Z k) : RecZ u B (.slice ax n cx) L Z p := by
  obtain ⟨hl, vs, hown, hrows⟩ := h
  subst hl
  refine ⟨vs, own_lower hown hB, fun k e => ?_, fun r hr => ?_⟩
  · obtain ⟨h1, h2⟩ := hown.lt k e
    exact ⟨hZ k h1 h2, by omega⟩
  · obtain ⟨x, c, e1, e2⟩ := hrows r hr
    refine ⟨x, c, e1, e2.mono hB, fun ad ha => ?_⟩
    obtain ⟨h1, cur, fr, h2⟩ := e2.block ad ha
    exact ⟨hZ _ h1 (heap_lt h2), by omega⟩
/-- The log's records are laid. -/
theorem WalR.loaded {u : World} {B p b : Nat} {l : LS} {dn : Bool} {Z : Foot} {a : Option Addr} {c n : Nat} {L : List (List Int)} (h : WalR u B p b l dn Z) (hn : L.length = n) (hr : RecZ u B (.slice a n c) L Z p) (hf : n ≤ 1000000) : WalR ((u.setCell ⟨p, 4, none⟩ (.slice a n c)).setCell ⟨p, 5, none⟩ (.int .i64 (n : Int))) B p b { l with L := L, safe := n } dn Z := by
  subst hn
  have oth : ∀ j, j ≠ 4 → j ≠ 5 → ((u.setCell ⟨p, 4, none⟩ (.slice a L.length c)).setCell ⟨p, 5, none⟩ (.int .i64 (L.length : Int))).cell? ⟨p, j, none⟩ = u.cell? ⟨p, j, none⟩ := fun j h2 h3 => (World.cell?_setCell_other _ _ _ _ (by intro e; injection e with _ e2; omega)).trans (World.cell?_setCell_other _ _ _ _ (by intro e; injection e with _ e2; omega))
  obtain ⟨a0, c0, e1, e2⟩ := h.c4
  have h5 : (u.setCell ⟨p, 4, none⟩ (.slice a L.length c)).cell? ⟨p, 5, none⟩ = some (.int .i64 (l.safe : Nat)) := (World.cell?_setCell_other _ _ _ _ (by intro e; injection e with _ e2; omega)).trans h.c5
  refine ⟨h.own, fun k x => by rw [World.size_setCell, World.size_setCell]; exact h.lt k x, h.lo, (oth 0 (by omega) (by omega)).trans h.c0, (oth 1 (by omega) (by omega)).trans h.c1, (oth 2 (by omega) (by omega)).trans h.c2, (oth 3 (by omega) (by omega)).trans h.c3, ⟨a, c, ?_, ?_⟩, World.cell?_setCell_same _ _ _ h5, fun j => by rw [World.frozen?_setCell, World.frozen?_setCell]; exact h.free j, hf, h.name⟩
  · exact (World.cell?_setCell_other _ _ _ _ (by intro e; injection e with _ e2; omega)).trans (World.cell?_setCell_same _ _ _ e1)
  · exact hr.kept (fun k _ hk => (Below.heap_setCell _ ⟨p, 5, none⟩ _ k hk).trans (Below.heap_setCell _ ⟨p, 4, none⟩ _ k hk)) (fun _ x => x)
/-- A log that was just made. -/
theorem WalR.made (w : World) (B b : Nat) (s : List Int) (lv : Int) (T : TypeId) (hB : B ≤ w.heap.size) (hm : mayN s = true) : WalR (w.alloc (.cells #[.pointer (some ⟨b, 0, none⟩), .string (strOfNums s), .int .i64 lv, .bool false, .slice none 0 0, .int .i64 0] T)) B w.heap.size b ⟨s, lv, false, [], 0⟩ false (fun k => k = w.heap.size) :=
  ⟨rfl, fun k e => by rw [e]; simp, fun k e => by rw [e]; exact hB, by rw [World.cell?_alloc_new]; rfl, by rw [World.cell?_alloc_new]; rfl, by rw [World.cell?_alloc_new]; rfl, by rw [World.cell?_alloc_new]; rfl, ⟨none, 0, by rw [World.cell?_alloc_new]; rfl, ⟨[], World.ownsRow_nil _ _ _ _, (fun k e => by simp [Value.ownBlock] at e), fun r hr => absurd hr (Nat.not_lt_zero _)⟩⟩, by rw [World.cell?_alloc_new]; rfl, fun j => World.frozen?_alloc_new _ _ _ _, Nat.zero_le _, hm⟩
theorem WalR.wider {u : World} {B p b : Nat} {l : LS} {dn : Bool} {Z Z' : Foot} (h : WalR u B p b l dn Z) (hZ : ∀ k, Z k → Z' k) (hlt : ∀ k, Z' k → k < u.heap.size) (hlo : ∀ k, Z' k → B ≤ k) : WalR u B p b l dn Z' := by
  obtain ⟨a, c, e1, e2⟩ := h.c4
  exact ⟨hZ _ h.own, hlt, hlo, h.c0, h.c1, h.c2, h.c3, ⟨a, c, e1, e2.kept (fun _ _ _ => rfl) hZ⟩, h.c5, h.free, h.few, h.name⟩
set_option maxHeartbeats 2000000 in
theorem ropen_none (B b : Nat) (S : DS) (X : Foot) (s : List Int) (w : World) (h : DiskR w b S X) (hB : B ≤ w.heap.size) (ho : S.off = false) (hm : mayN s = true) (hf : findN S.fs s = none) :
    Calls Try.prog 20 #[.pointer (some ⟨b, 0, none⟩), .string (strOfNums s)] w fun e w' => ∃ p Z, e = .returned (.tuple #[.pointer (some ⟨p, 0, none⟩), .int .i64 0]) ∧ WD w' B p b (S.opened s) (S.log s) false X Z ∧ Below w.heap.size w w' ∧ ∀ k, Z k → w.heap.size ≤ k := by
  have hs := may_bytes _ hm
  have hl : s.length ≤ 1000000 := by have := hm; unfold mayN at this; simp at this; omega
  have d2 := h.c2
  rw [ho] at d2
  have d3 := h.c3
  have CM : Hid (Calls Try.prog 43 #[.string (strOfNums s)] w fun e w' => e = .returned (.bool true) ∧ w' = w) := by rw [← hm]; exact rmay_any s w hs hl
  obtain ⟨V, hV⟩ : ∃ V, V = w.alloc (.cells #[.pointer (some ⟨b, 0, none⟩), .string (strOfNums s), .int .i64 S.lives, .bool false, .slice none 0 0, .int .i64 0] 51) := ⟨_, rfl⟩
  have HVB : Hid (Below w.heap.size w V) := by rw [hV]; exact (Below.refl _ _).alloc (Nat.le_refl _) _
  have HWL : Hid (WalR V B w.heap.size b ⟨s, S.lives, false, [], 0⟩ false (fun k => k = w.heap.size)) := by rw [hV]; exact WalR.made w B b s S.lives 51 hB hm
  have er : S.err s = 4 := by unfold DS.err; rw [ho, hm, hf]; rfl
  have CR : Hid (Calls Try.prog 30 #[.pointer (some ⟨b, 0, none⟩), .string (strOfNums s)] V fun e w' => ∃ a c, e = .returned (.tuple #[.slice a 0 c, .int .i64 4]) ∧ w' = V) := by
    have e : S.read s = (4, []) := by unfold DS.read; rw [if_neg (by rw [er]; omega), er]
    have := rdread_any b S X s V (h.past HVB.out) hs hl
    rw [e] at this
    exact this.mono (by rintro e w' ⟨a, c, rfl, rfl, _⟩; exact ⟨a, c, rfl, rfl⟩)
  have HEND : Hid (WD V B w.heap.size b (S.opened s) (S.log s) false X (fun k => k = w.heap.size)) := by
    have e1 : S.opened s = S := by unfold DS.opened; rw [hf]
    have e2 : S.log s = ⟨s, S.lives, false, [], 0⟩ := by unfold DS.log; rw [hf]
    rw [e1, e2]
    exact ⟨h.past HVB.out, HWL.out, fun k x e => by have := h.lt k x; omega⟩
  have HVE : Hid (V = w.alloc (.cells #[.pointer (some ⟨b, 0, none⟩), .string (strOfNums s), .int .i64 S.lives, .bool false, .slice none 0 0, .int .i64 0] 51)) := hV
  rw [hV] at CR
  clear h ho hm hf er hV
  go_enter Try.func20, Try.ntmps20
  go_wp2_with (first | (go_at_call 43; refine CM.out.mono ?_; rintro e wz ⟨rfl, hwz⟩; obtain rfl := hwz.symm; clear hwz) | (go_at_call 30; refine CR.out.mono ?_; rintro e wz ⟨a, c, rfl, hwz⟩; obtain rfl := hwz.symm; clear hwz))
  rw [← HVE.out]
  go_returns
  exact ⟨w.heap.size, _, rfl, HEND.out, HVB.out, fun k e => by rw [e]; exact Nat.le_refl _⟩
theorem ropen_off (b : Nat) (S : DS) (X : Foot) (s : List Int) (w : World) (h : DiskR w b S X) (ho : S.off = true) :
    Calls Try.prog 20 #[.pointer (some ⟨b, 0, none⟩), .string (strOfNums s)] w fun e w' => e = .returned (.tuple #[.pointer none, .int .i64 7]) ∧ w' = w := by
  have d2 := h.c2
  rw [ho] at d2
  clear h ho
  go_enter Try.func20, Try.ntmps20
  go_wp2
  go_returns
  exact ⟨rfl, rfl⟩
theorem find_set {fs : List FileV} {s : List Int} {i : Nat} {f f' : FileV} (h : findN fs s = some i) (hf : fs[i]? = some f) (hn : f'.name = f.name) : findN (setF fs i f') s = some i := by
  induction fs generalizing i with
  | nil => simp at hf
  | cons g r ih =>
    unfold findN at h
    unfold setF
    cases i with
    | zero =>
      simp at hf
      subst hf
      split at h
      · rename_i e
        simp [findN, hn, e]
      · cases hr : findN r s with
        | none => rw [hr] at h; simp at h
        | some j => rw [hr] at h; simp at h
    | succ i =>
      split at h
      · simp at h
      · rename_i e
        cases hr : findN r s with
        | none => rw [hr] at h; simp at h
        | some j =>
          rw [hr] at h
          simp at h
          subst h
          have := ih hr (by simpa using hf)
          unfold setF at this
          simp [findN, e, this]
theorem setF_setF (fs : List FileV) (i : Nat) (f f' : FileV) : setF (setF fs i f) i f' = setF fs i f' := by simp [setF]
/-- What Cut and Sync behind it leave is what Open leaves. -/
theorem opened_cut {S : DS} {s : List Int} {i : Nat} {f : FileV} (ho : S.off = false) (hm : mayN s = true) (hf : findN S.fs s = some i) (hif : S.fs[i]? = some f) (hb : By f.b) : (((S.cut s ((scanN f.b).2.1 : Nat)).2).sync s).2 = S.opened s ∧ ((scanN f.b).2.2 = true → (S.sync s).2 = S.opened s) := by
  obtain ⟨s1, s2, _⟩ := scan_facts f.b.length f.b (Nat.le_refl _) hb
  have herr : S.err s = 0 := by unfold DS.err; rw [ho, hm, hf]; rfl
  have e0 : S.opened s = { S with fs := setF S.fs i ⟨f.name, f.b.take (scanN f.b).2.1, (scanN f.b).2.1⟩ } := by unfold DS.opened; rw [hf]; simp [file_at hif]
  refine ⟨?_, fun hw => ?_⟩
  · have e1 : (S.cut s ((scanN f.b).2.1 : Nat)).2 = { S with fs := setF S.fs i ⟨f.name, f.b.take (scanN f.b).2.1, min f.safe (scanN f.b).2.1⟩ } := by
      unfold DS.cut
      rw [if_pos herr, hf]
      simp only [file_at hif]
      rw [if_neg (by omega)]
      simp
    rw [e1, e0]
    have hf2 := find_set (f' := ⟨f.name, f.b.take (scanN f.b).2.1, min f.safe (scanN f.b).2.1⟩) hf hif rfl
    have hif2 := setF_same (f' := ⟨f.name, f.b.take (scanN f.b).2.1, min f.safe (scanN f.b).2.1⟩) hif
    have herr2 : ({ S with fs := setF S.fs i ⟨f.name, f.b.take (scanN f.b).2.1, min f.safe (scanN f.b).2.1⟩ } : DS).err s = 0 := by unfold DS.err; simp only; rw [ho, hm, hf2]; rfl
    unfold DS.sync
    rw [if_pos herr2]
    simp only [hf2]
    rw [file_at hif2, setF_setF]
    simp [List.length_take, Nat.min_eq_left s1]
  · have hu := s2 hw
    unfold DS.sync
    rw [if_pos herr, hf, e0]
    simp only [file_at hif]
    rw [hu, List.take_length]
end Go.Proofs.Ytlfmhdljldbjmaa
