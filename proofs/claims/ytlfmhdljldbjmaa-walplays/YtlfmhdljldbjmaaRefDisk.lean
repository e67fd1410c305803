/-
  What the document's own disks (hourglassref8: May, find, ask, Size of a Disk) answer.
-/
import Derived.Test.YtlfmhdljldbjmaaBase
import Derived.Deep.QuietTactic
import Derived.BigQuiet
namespace Go.Proofs.Ytlfmhdljldbjmaa
open Go.RowKit
set_option linter.unusedVariables false

/-- A file's bytes: nil, or a block of their own, apart from the disk's two others. -/
structure Buf (u : World) (a : Option Addr) (c : Nat) (zs : List Int) (X : Foot) (g b : Nat) : Prop where
  le : zs.length ≤ c
  nil : a = none → c = 0
  row : Row u a zs
  own : ∀ ad, a = some ad → ∃ bb, ad = ⟨bb, 0, none⟩ ∧ X bb ∧ bb ≠ g ∧ bb ≠ b
theorem Buf.kept {u u' : World} {a : Option Addr} {c : Nat} {zs : List Int} {X X' : Foot} {g b : Nat} (h : Buf u a c zs X g b) (hk : ∀ k, X k → k ≠ g → k ≠ b → u'.heap[k]? = u.heap[k]?) (hX : ∀ k, X k → X' k) : Buf u' a c zs X' g b := by
  refine ⟨h.le, h.nil, ⟨h.row.bytes, h.row.cells.imp id ?_⟩, fun ad e => ?_⟩
  · rintro ⟨b', o', he, hc⟩
    obtain ⟨bb, e2, x1, x2, x3⟩ := h.own _ he
    injection e2 with e3 e4
    subst e3
    exact ⟨_, _, he, fun j hj => (cell_kept (hk _ x1 x2 x3) _).trans (hc j hj)⟩
  · obtain ⟨bb, e2, x1, x2⟩ := h.own ad e
    exact ⟨bb, e2, hX bb x1, x2⟩
/-- A file in memory: its three cells, its bytes. -/
structure FileR (u : World) (b g o : Nat) (f : FileV) (X : Foot) : Prop where
  c0 : u.cell? ⟨g, o, none⟩ = some (.string (strOfNums f.name))
  c1 : ∃ a c, u.cell? ⟨g, o + 1, none⟩ = some (.slice a f.b.length c) ∧ Buf u a c f.b X g b
  c2 : u.cell? ⟨g, o + 2, none⟩ = some (.int .i64 f.safe)
/-- A disk in memory. -/
structure DiskR (u : World) (b : Nat) (S : DS) (X : Foot) : Prop where
  own : X b
  lt : ∀ k, X k → k < u.heap.size
  c0 : u.cell? ⟨b, 0, none⟩ = some (.int .i64 S.room)
  c2 : u.cell? ⟨b, 2, none⟩ = some (.bool S.off)
  c3 : u.cell? ⟨b, 3, none⟩ = some (.int .i64 S.lives)
  free : ∀ j, u.frozen? ⟨b, j, none⟩ = false
  list : (u.cell? ⟨b, 1, none⟩ = some (.slice none 0 0) ∧ S.fs = []) ∨ ∃ g cap, u.cell? ⟨b, 1, none⟩ = some (.slice (some ⟨g, 0, none⟩) S.fs.length cap) ∧ S.fs.length ≤ cap ∧ X g ∧ g ≠ b ∧ (∀ j, u.frozen? ⟨g, j, none⟩ = false) ∧ ∀ i f, S.fs[i]? = some f → FileR u b g (i * 3) f X
  good : S.Good
  few : S.fs.length ≤ 1000
theorem FileR.kept {u u' : World} {b g o : Nat} {f : FileV} {X : Foot} (h : FileR u b g o f X) (hg : X g) (hk : ∀ k, X k → u'.heap[k]? = u.heap[k]?) : FileR u' b g o f X := by
  obtain ⟨h0, ⟨a, c, h1, h2⟩, h7⟩ := h
  exact ⟨(cell_kept (hk g hg) _).trans h0, ⟨a, c, (cell_kept (hk g hg) _).trans h1, h2.kept (fun k x _ _ => hk k x) (fun _ x => x)⟩, (cell_kept (hk g hg) _).trans h7⟩
theorem DiskR.kept {u u' : World} {b : Nat} {S : DS} {X : Foot} (h : DiskR u b S X) (hs : u.heap.size ≤ u'.heap.size) (hk : ∀ k, X k → u'.heap[k]? = u.heap[k]?) : DiskR u' b S X := by
  obtain ⟨h0, h1, h2, h3, h4, h5, h6, h7, h8⟩ := h
  refine ⟨h0, fun k x => Nat.lt_of_lt_of_le (h1 k x) hs, (cell_kept (hk b h0) _).trans h2, (cell_kept (hk b h0) _).trans h3, (cell_kept (hk b h0) _).trans h4, fun j => (frozen_kept (hk b h0) _).trans (h5 j), h6.imp (fun ⟨x, y⟩ => ⟨(cell_kept (hk b h0) _).trans x, y⟩) ?_, h7, h8⟩
  rintro ⟨g, cap, x1, x2, x3, x4, x5, x6⟩
  exact ⟨g, cap, (cell_kept (hk b h0) _).trans x1, x2, x3, x4, fun j => (frozen_kept (hk g x3) _).trans (x5 j), fun i f hf => (x6 i f hf).kept x3 hk⟩
theorem DiskR.past {u u' : World} {b : Nat} {S : DS} {X : Foot} (h : DiskR u b S X) (hb : Below u.heap.size u u') : DiskR u' b S X := h.kept hb.size (fun k x => hb.block k (h.lt k x))
theorem may_bytes (s : List Int) (h : mayN s = true) : By s := by
  unfold mayN at h
  simp at h
  intro z hz
  have := h.2 z hz
  omega
set_option maxHeartbeats 1000000 in
theorem rmay_any (s : List Int) (w : World) (hs : By s) (hl : s.length ≤ 1000000) :
    Calls Try.prog 43 #[.string (strOfNums s)] w fun e w' => e = .returned (.bool (mayN s)) ∧ w' = w := by
  have HB : Hid (By s) := hs
  have HZ : Hid ((strOfNums s).size = s.length) := strOfNums_size s
  obtain ⟨S, hS⟩ : ∃ S, S = strOfNums s := ⟨_, rfl⟩
  have HS : Hid (S = strOfNums s) := hS
  rw [← hS] at HZ ⊢
  have hlz : S.size ≤ 1000000 := by rw [HZ.out]; exact hl
  obtain ⟨R, hR⟩ : ∃ R, R = mayN s := ⟨_, rfl⟩
  have HR : Hid (R = mayN s) := hR
  rw [← hR]
  clear hS hs hl hR
  by_cases h1 : S.size < 1
  · have e : R = false := by rw [HR.out]; unfold mayN; have := HZ.out; simp; omega
    subst e
    go_enter Try.func43, Try.ntmps43
    go_wp2
    go_ret
    exact ⟨rfl, rfl⟩
  by_cases h2 : 20 < S.size
  · have e : R = false := by rw [HR.out]; unfold mayN; have := HZ.out; simp; omega
    subst e
    go_enter Try.func43, Try.ntmps43
    go_wp2
    go_ret
    exact ⟨rfl, rfl⟩
  go_enter Try.func43, Try.ntmps43
  go_wp2
  go_loopw [3] (fun i wr => ∃ n : Nat, n ≤ S.size ∧ i = .int .i64 n ∧ wr = w ∧ Hid (∀ z ∈ s.take n, 33 ≤ z ∧ z ≤ 126)) (fun i _ => S.size - (intOf i).toNat)
  case atStart => exact ⟨0, Nat.zero_le _, rfl, rfl, fun z hz => by simp at hz⟩
  case round =>
    obtain ⟨n, hn, rfl, rfl, HN⟩ := hrel
    by_cases hlt : n < S.size
    · have hns : n < s.length := by rw [← HZ.out]; exact hlt
      have hz : ((S[n]'hlt).toNat : Int) = s.getD n 0 := by
        have := nums_at s HB.out n (by rw [← HS.out]; exact hlt)
        simp only [← HS.out] at this
        rw [this]; rfl
      obtain ⟨Z, hZ⟩ : ∃ Z, Z = s.getD n 0 := ⟨_, rfl⟩
      rw [← hZ] at hz
      have HZZ : Hid (Z = s.getD n 0) := hZ
      have HM : Hid (Z ∈ s) := by show _ ∈ _; rw [hZ]; simp [List.getD, hns]
      clear hZ
      by_cases z1 : Z < 33
      · have b1 : decide (Z < 33) = true := decide_eq_true z1
        have e : R = false := by
          rw [HR.out]; unfold mayN
          have : s.all (fun c => decide (33 ≤ c) && decide (c ≤ 126)) = false := by
            rw [List.all_eq_false]; exact ⟨Z, HM.out, by simp; omega⟩
          rw [this]; simp
        subst e
        go_wp2
        go_ret
        exact ⟨rfl, rfl⟩
      · have b1 : decide (Z < 33) = false := decide_eq_false z1
        by_cases z2 : 126 < Z
        · have b2 : decide (126 < Z) = true := decide_eq_true z2
          have e : R = false := by
            rw [HR.out]; unfold mayN
            have : s.all (fun c => decide (33 ≤ c) && decide (c ≤ 126)) = false := by
              rw [List.all_eq_false]; exact ⟨Z, HM.out, by simp; omega⟩
            rw [this]; simp
          subst e
          go_wp2
          go_ret
          exact ⟨rfl, rfl⟩
        · have b2 : decide (126 < Z) = false := decide_eq_false z2
          go_wp2
          exact ⟨⟨n + 1, by omega, by simp, trivial, fun z hz => by
            rw [List.take_add_one] at hz
            rcases List.mem_append.1 hz with h | h
            · exact HN.out z h
            · have e : z = Z := by rw [HZZ.out]; simp [hns] at h; simp [List.getD, hns, h]
              rw [e]; omega⟩, by simp [intOf]; omega⟩
    · obtain rfl : n = S.size := by omega
      have e : R = true := by
        rw [HR.out]; unfold mayN
        have hall : ∀ z ∈ s, 33 ≤ z ∧ z ≤ 126 := fun z hz => HN.out z (by rw [HZ.out, List.take_length]; exact hz)
        have : s.all (fun c => decide (33 ≤ c) && decide (c ≤ 126)) = true := by
          rw [List.all_eq_true]; intro z hz; have := hall z hz; simp; omega
        rw [this]; have := HZ.out; simp; omega
      subst e
      go_wp2
      go_ret
      exact ⟨rfl, rfl⟩
/-- The list's cell, and where a file lies. -/
theorem DiskR.lst {u : World} {b : Nat} {S : DS} {X : Foot} (h : DiskR u b S X) : ∃ a cap, u.cell? ⟨b, 1, none⟩ = some (.slice a S.fs.length cap) ∧ S.fs.length ≤ cap ∧ (a = none → cap = 0) ∧ ∀ i f, S.fs[i]? = some f → ∃ g, a = some ⟨g, 0, none⟩ ∧ X g ∧ g ≠ b ∧ (∀ j, u.frozen? ⟨g, j, none⟩ = false) ∧ FileR u b g (i * 3) f X := by
  rcases h.list with ⟨h1, h2⟩ | ⟨g, cap, h1, h2, h3, h4, h5, h6⟩
  · refine ⟨none, 0, by rw [h2]; exact h1, by rw [h2]; exact Nat.le_refl _, fun _ => rfl, fun i f hf => by rw [h2] at hf; simp at hf⟩
  · exact ⟨_, cap, h1, h2, (fun h => by cases h), fun i f hf => ⟨g, rfl, h3, h4, h5, h6 i f hf⟩⟩
/-- A place as a number: -1 for none. -/
def placeI : Option Nat → Int
  | none => -1
  | some i => i
theorem find_none (fs : List FileV) (s : List Int) : findN fs s = none ↔ ∀ f ∈ fs, f.name ≠ s := by
  induction fs with
  | nil => simp [findN]
  | cons f r ih =>
    unfold findN
    by_cases h : f.name = s
    · simp [h]
    · simp [h, ih]
theorem find_some (fs : List FileV) (s : List Int) (i : Nat) (f : FileV) (hi : fs[i]? = some f) (hf : f.name = s) (hn : ∀ j g, j < i → fs[j]? = some g → g.name ≠ s) : findN fs s = some i := by
  induction fs generalizing i with
  | nil => simp at hi
  | cons g r ih =>
    unfold findN
    cases i with
    | zero => simp at hi; subst hi; rw [if_pos hf]
    | succ i =>
      have h0 := hn 0 g (by omega) rfl
      rw [if_neg h0, ih i (by simpa using hi) (fun j x hj hx => hn (j + 1) x (by omega) (by simpa using hx))]
      rfl
set_option maxHeartbeats 1000000 in
theorem rfind_any (b : Nat) (S : DS) (X : Foot) (s : List Int) (w : World) (h : DiskR w b S X) (hs : By s) :
    Calls Try.prog 65 #[.pointer (some ⟨b, 0, none⟩), .string (strOfNums s)] w fun e w' => e = .returned (.int .i64 (placeI (findN S.fs s))) ∧ w' = w := by
  obtain ⟨a, cap, c1, hcap, _, hf⟩ := h.lst
  have HNB : Hid (∀ f ∈ S.fs, By f.name) := fun f hf => may_bytes _ (h.good.names f hf)
  have HF : Hid (∀ i f, S.fs[i]? = some f → ∃ g, a = some ⟨g, 0, none⟩ ∧ w.cell? ⟨g, i * 3, none⟩ = some (.string (strOfNums f.name))) := fun i f hif => by
    obtain ⟨g, e, _, _, _, hr⟩ := hf i f hif
    exact ⟨g, e, hr.c0⟩
  have hfew := h.few
  obtain ⟨N, hN⟩ : ∃ N, N = S.fs.length := ⟨_, rfl⟩
  have HN : Hid (N = S.fs.length) := hN
  rw [← hN] at c1 hcap hfew
  obtain ⟨R, hR⟩ : ∃ R, R = placeI (findN S.fs s) := ⟨_, rfl⟩
  have HR : Hid (R = placeI (findN S.fs s)) := hR
  rw [← hR]
  clear hf h hN hR
  go_enter Try.func65, Try.ntmps65
  go_wp2
  go_loopw [5] (fun i wr => ∃ n : Nat, n ≤ N ∧ i = .int .i64 n ∧ wr = w ∧ Hid (∀ j g, j < n → S.fs[j]? = some g → g.name ≠ s)) (fun i _ => N - (intOf i).toNat)
  case atStart => exact ⟨0, Nat.zero_le _, rfl, rfl, fun j g hj => absurd hj (by omega)⟩
  case round =>
    obtain ⟨n, hn, rfl, rfl, HM⟩ := hrel
    by_cases hlt : n < N
    · have hnl : n < S.fs.length := by rw [← HN.out]; exact hlt
      obtain ⟨f, hfn⟩ : ∃ f, S.fs[n]? = some f := ⟨_, List.getElem?_eq_getElem hnl⟩
      have HFN : Hid (S.fs[n]? = some f) := hfn
      obtain ⟨g, rfl, cf⟩ := HF.out n f hfn
      have heq := str_eq (HNB.out f (List.mem_of_getElem? hfn)) hs
      clear hfn
      by_cases he : f.name = s
      · have e : R = (n : Int) := by rw [HR.out, find_some S.fs s n f HFN.out he HM.out]; rfl
        subst e
        have hb : ((strOfNums f.name).toList == (strOfNums s).toList) = true := by rw [heq]; exact decide_eq_true he
        clear heq he
        go_wp2
        go_ret
        exact ⟨rfl, rfl⟩
      · have hb : ((strOfNums f.name).toList == (strOfNums s).toList) = false := by rw [heq]; exact decide_eq_false he
        clear heq
        have HE : Hid (f.name ≠ s) := he
        clear he
        go_wp2
        exact ⟨⟨n + 1, by omega, by simp, trivial, fun j x hj hx => by
          rcases Nat.lt_or_ge j n with h' | h'
          · exact HM.out j x h' hx
          · have : j = n := by omega
            subst this
            rw [HFN.out] at hx
            injection hx with hx
            subst hx; exact HE.out⟩, by simp [intOf]; omega⟩
    · obtain rfl : n = N := by omega
      have e : R = -1 := by
        rw [HR.out, (find_none S.fs s).2 (fun f hf => ?_)]
        · rfl
        · obtain ⟨j, hj, rfl⟩ := List.mem_iff_getElem.1 hf
          exact HM.out j _ (by rw [HN.out]; exact hj) (List.getElem?_eq_getElem hj)
      subst e
      go_wp2
      go_ret
      exact ⟨rfl, rfl⟩
end Go.Proofs.Ytlfmhdljldbjmaa
