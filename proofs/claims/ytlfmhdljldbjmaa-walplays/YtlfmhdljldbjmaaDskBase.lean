/-
  The landed package disk: how a file and a disk lie in memory, what stays of them while other blocks turn. No function of the program is named here.
-/
import Derived.Test.YtlfmhdljldbjmaaBase
import Derived.Maps.AppendAt
namespace Go.Proofs.Ytlfmhdljldbjmaa
open Go.RowKit
set_option linter.unusedVariables false

theorem owns_kept {u u' : World} {base e size n : Nat} {v : Value} {xs : List Value} (h : u.ownsRow base e size v n xs) (hk : ∀ q, v.ownBlock = some q → u'.heap[q]? = u.heap[q]?) : u'.ownsRow base e size v n xs := by
  refine ⟨h.1, h.2.imp id ?_⟩
  rintro ⟨g, cap, cur, rfl, h1, h2, h3⟩
  exact ⟨g, cap, cur, rfl, h1, (hk g rfl).trans h2, h3⟩
/-- A file in memory: g its block; Y its blocks. -/
structure FileD (u : World) (g : Nat) (f : FileV) (Y : Foot) : Prop where
  own : Y g
  lt : ∀ k, Y k → k < u.heap.size
  free : ∀ j, u.frozen? ⟨g, j, none⟩ = false
  c0 : ∃ a c, u.cell? ⟨g, 0, none⟩ = some (.slice a f.b.length c) ∧ u.ownsRow 0 5 1 (.slice a f.b.length c) f.b.length (bs f.b) ∧ ∀ q, (Value.slice a f.b.length c).ownBlock = some q → Y q ∧ q ≠ g
  c1 : u.cell? ⟨g, 1, none⟩ = some (.int .i64 (f.safe : Int))
theorem FileD.kept {u u' : World} {g : Nat} {f : FileV} {Y : Foot} (h : FileD u g f Y) (hs : u.heap.size ≤ u'.heap.size) (hk : ∀ k, Y k → u'.heap[k]? = u.heap[k]?) : FileD u' g f Y := by
  obtain ⟨h1, h2, h3, ⟨a, c, h4, h5, h6⟩, h7⟩ := h
  exact ⟨h1, fun k x => Nat.lt_of_lt_of_le (h2 k x) hs, fun j => (frozen_kept (hk g h1) j).trans (h3 j), ⟨a, c, (cell_kept (hk g h1) _).trans h4, owns_kept h5 (fun q e => hk q (h6 q e).1), h6⟩, (cell_kept (hk g h1) _).trans h7⟩
def Dist (fs : List FileV) : Prop := fs.Pairwise (fun f g => f.name ≠ g.name)
/-- A disk in memory: b its block, m its map's, G x the block of the file that is named x, Y s the blocks of the file that is named s. -/
structure DiskI (u : World) (b : Nat) (S : DS) (X : Foot) (m : Nat) (G : ByteArray → Option Nat) (Y : List Int → Foot) : Prop where
  own : X b
  lt : ∀ k, X k → k < u.heap.size
  xm : X m
  mb : m ≠ b
  c0 : u.cell? ⟨b, 0, none⟩ = some (.map (some m))
  c1 : u.cell? ⟨b, 1, none⟩ = some (.int .i64 S.room)
  c2 : u.cell? ⟨b, 2, none⟩ = some (.int .i64 (sizeN S.fs : Nat))
  c3 : u.cell? ⟨b, 3, none⟩ = some (.bool (!S.off))
  c4 : u.cell? ⟨b, 4, none⟩ = some (.int .i64 S.lives)
  free : ∀ j, u.frozen? ⟨b, j, none⟩ = false
  map : PMap u m S.fs.length G
  only : ∀ x g, G x = some g → ∃ f ∈ S.fs, x = strOfNums f.name
  file : ∀ f ∈ S.fs, ∃ g, G (strOfNums f.name) = some g ∧ FileD u g f (Y f.name)
  foot : ∀ s k, Y s k → X k ∧ k ≠ b ∧ k ≠ m
  apart : ∀ s t k, Y s k → Y t k → s = t
  good : S.Good
  dist : Dist S.fs
def DiskD (u : World) (b : Nat) (S : DS) (X : Foot) : Prop := ∃ m G Y, DiskI u b S X m G Y
theorem DiskI.kept {u u' : World} {b m : Nat} {S : DS} {X : Foot} {G : ByteArray → Option Nat} {Y : List Int → Foot} (h : DiskI u b S X m G Y) (hs : u.heap.size ≤ u'.heap.size) (hk : ∀ k, X k → u'.heap[k]? = u.heap[k]?) : DiskI u' b S X m G Y := by
  obtain ⟨h1, h2, h3, h4, h5, h6, h7, h8, h9, h10, h11, h12, h13, h14, h15, h16, h17⟩ := h
  refine ⟨h1, fun k x => Nat.lt_of_lt_of_le (h2 k x) hs, h3, h4, (cell_kept (hk b h1) _).trans h5, (cell_kept (hk b h1) _).trans h6, (cell_kept (hk b h1) _).trans h7, (cell_kept (hk b h1) _).trans h8, (cell_kept (hk b h1) _).trans h9, fun j => (frozen_kept (hk b h1) j).trans (h10 j), h11.kept (hk m h3), h12, fun f hf => ?_, h14, h15, h16, h17⟩
  obtain ⟨g, e, hd⟩ := h13 f hf
  exact ⟨g, e, hd.kept hs (fun k x => hk k (h14 _ k x).1)⟩
theorem DiskI.past {u u' : World} {b m : Nat} {S : DS} {X : Foot} {G : ByteArray → Option Nat} {Y : List Int → Foot} (h : DiskI u b S X m G Y) (hb : Below u.heap.size u u') : DiskI u' b S X m G Y := h.kept hb.size (fun k x => hb.block k (h.lt k x))
theorem DiskD.own {u : World} {b : Nat} {S : DS} {X : Foot} (h : DiskD u b S X) : X b := by obtain ⟨m, G, Y, h⟩ := h; exact h.own
theorem DiskD.lt {u : World} {b : Nat} {S : DS} {X : Foot} (h : DiskD u b S X) : ∀ k, X k → k < u.heap.size := by obtain ⟨m, G, Y, h⟩ := h; exact h.lt
theorem DiskD.kept {u u' : World} {b : Nat} {S : DS} {X : Foot} (h : DiskD u b S X) (hs : u.heap.size ≤ u'.heap.size) (hk : ∀ k, X k → u'.heap[k]? = u.heap[k]?) : DiskD u' b S X := by obtain ⟨m, G, Y, h⟩ := h; exact ⟨m, G, Y, h.kept hs hk⟩
theorem DiskD.past {u u' : World} {b : Nat} {S : DS} {X : Foot} (h : DiskD u b S X) (hb : Below u.heap.size u u') : DiskD u' b S X := h.kept hb.size (fun k x => hb.block k (h.lt k x))
theorem DiskD.good {u : World} {b : Nat} {S : DS} {X : Foot} (h : DiskD u b S X) : S.Good := by obtain ⟨m, G, Y, h⟩ := h; exact h.good

/-! Files by their names -/
theorem may_by (s : List Int) (h : mayN s = true) : By s := by
  unfold mayN at h
  simp at h
  intro z hz
  have := h.2 z hz
  omega
theorem find_none_iff (fs : List FileV) (s : List Int) : findN fs s = none ↔ ∀ f ∈ fs, f.name ≠ s := by
  induction fs with
  | nil => simp [findN]
  | cons f r ih =>
    unfold findN
    by_cases h : f.name = s
    · simp [h]
    · simp [h, ih]
theorem find_file : ∀ (fs : List FileV) (s : List Int) (i : Nat), findN fs s = some i → ∃ f, fs[i]? = some f ∧ f.name = s
  | [], s, i, h => by simp [findN] at h
  | f :: r, s, i, h => by
    unfold findN at h
    split at h
    · rename_i e; simp at h; subst h; exact ⟨f, rfl, e⟩
    · cases hr : findN r s with
      | none => rw [hr] at h; simp at h
      | some j => rw [hr] at h; simp at h; subst h; simpa using find_file r s j hr
theorem file_at' {fs : List FileV} {i : Nat} {f : FileV} (h : fs[i]? = some f) : fileAt fs i = f := by simp [fileAt, List.getD, h]
theorem dist_one {fs : List FileV} (h : Dist fs) {f g : FileV} (hf : f ∈ fs) (hg : g ∈ fs) (e : f.name = g.name) : f = g := by
  induction fs with
  | nil => simp at hf
  | cons x r ih =>
    obtain ⟨h1, h2⟩ := List.pairwise_cons.1 h
    rcases List.mem_cons.1 hf with e1 | hf'
    · rcases List.mem_cons.1 hg with e2 | hg'
      · rw [e1, e2]
      · exact absurd (e1 ▸ e) (h1 g hg')
    · rcases List.mem_cons.1 hg with e2 | hg'
      · exact absurd (e2 ▸ e).symm (h1 f hf')
      · exact ih h2 hf' hg'
theorem setF_mem_iff {fs : List FileV} (hd : Dist fs) {i : Nat} {f f' x : FileV} (hi : fs[i]? = some f) (he : f'.name = f.name) : x ∈ setF fs i f' ↔ x = f' ∨ (x ∈ fs ∧ x.name ≠ f.name) := by
  induction fs generalizing i with
  | nil => simp at hi
  | cons y r ih =>
    obtain ⟨h1, h2⟩ := List.pairwise_cons.1 hd
    cases i with
    | zero =>
      simp at hi; subst hi
      simp only [setF, List.set_cons_zero, List.mem_cons]
      constructor
      · rintro (rfl | hx)
        · exact .inl rfl
        · exact .inr ⟨.inr hx, fun e => h1 x hx e.symm⟩
      · rintro (rfl | ⟨hx, hn⟩)
        · exact .inl rfl
        · rcases hx with rfl | hx
          · exact absurd rfl hn
          · exact .inr hx
    | succ j =>
      have hj : r[j]? = some f := by simpa using hi
      have hr := ih h2 hj
      simp only [setF, List.set_cons_succ, List.mem_cons] at hr ⊢
      have hy : y.name ≠ f.name := h1 f (List.mem_of_getElem? hj)
      constructor
      · rintro (rfl | hx)
        · exact .inr ⟨.inl rfl, hy⟩
        · rcases hr.1 hx with h | ⟨h, hn⟩
          · exact .inl h
          · exact .inr ⟨.inr h, hn⟩
      · rintro (rfl | ⟨hx, hn⟩)
        · exact .inr (hr.2 (.inl rfl))
        · rcases hx with rfl | hx
          · exact .inl rfl
          · exact .inr (hr.2 (.inr ⟨hx, hn⟩))
theorem setF_length (fs : List FileV) (i : Nat) (f' : FileV) : (setF fs i f').length = fs.length := by simp [setF]
theorem setF_names {fs : List FileV} {i : Nat} {f f' : FileV} (hi : fs[i]? = some f) (he : f'.name = f.name) : (setF fs i f').map (·.name) = fs.map (·.name) := by
  unfold setF
  rw [List.map_set]
  apply List.ext_getElem?
  intro j
  by_cases hj : i = j
  · subst hj
    have hl : i < fs.length := by
      rcases Nat.lt_or_ge i fs.length with h | h
      · exact h
      · rw [List.getElem?_eq_none h] at hi; cases hi
    rw [List.getElem?_set_self (by simpa using hl), List.getElem?_map, hi]
    simp [he]
  · rw [List.getElem?_set_ne hj]
theorem dist_names {fs : List FileV} : Dist fs ↔ (fs.map (·.name)).Nodup := by
  unfold Dist
  rw [List.Nodup, List.pairwise_map]
theorem setF_dist {fs : List FileV} {i : Nat} {f f' : FileV} (hd : Dist fs) (hi : fs[i]? = some f) (he : f'.name = f.name) : Dist (setF fs i f') := by
  rw [dist_names, setF_names hi he, ← dist_names]; exact hd
theorem setF_size {fs : List FileV} {i : Nat} {f f' : FileV} (hi : fs[i]? = some f) : sizeN (setF fs i f') + f.b.length = sizeN fs + f'.b.length := by
  induction fs generalizing i with
  | nil => simp at hi
  | cons y r ih =>
    cases i with
    | zero => simp at hi; subst hi; simp [setF, sizeN]; omega
    | succ j =>
      have := ih (i := j) (by simpa using hi)
      simp only [setF, List.set_cons_succ, sizeN] at this ⊢
      omega
theorem size_one {fs : List FileV} {f : FileV} (h : f ∈ fs) : f.b.length ≤ sizeN fs := by
  induction fs with
  | nil => simp at h
  | cons y r ih =>
    rcases List.mem_cons.1 h with rfl | h
    · simp [sizeN]
    · have := ih h; simp [sizeN]; omega
theorem setF_good {S : DS} {i : Nat} {f' : FileV} (hg : S.Good) (h1 : f'.safe ≤ f'.b.length) (h2 : By f'.b) (h3 : mayN f'.name = true) : ({ S with fs := setF S.fs i f' } : DS).Good := by
  have hm : ∀ x ∈ setF S.fs i f', x = f' ∨ x ∈ S.fs := fun x hx => by
    rcases List.mem_or_eq_of_mem_set hx with h | h
    · exact .inr h
    · exact .inl h
  exact ⟨fun x hx => (hm x hx).elim (fun e => e ▸ h1) (hg.safe x), fun x hx => (hm x hx).elim (fun e => e ▸ h2) (hg.bytes x), fun x hx => (hm x hx).elim (fun e => e ▸ h3) (hg.names x)⟩
/-- One file has turned: its blocks alone and the disk's own. -/
theorem DiskI.turn {u u' : World} {b m g i : Nat} {S : DS} {X Y' : Foot} {G : ByteArray → Option Nat} {Y : List Int → Foot} {f f' : FileV} (h : DiskI u b S X m G Y) (hi : S.fs[i]? = some f) (hn : f'.name = f.name) (hg : G (strOfNums f.name) = some g)
    (hc : Chg u u' (fun k => Y f.name k ∨ k = b)) (k0 : u'.cell? ⟨b, 0, none⟩ = some (.map (some m))) (k1 : u'.cell? ⟨b, 1, none⟩ = some (.int .i64 S.room)) (k2 : u'.cell? ⟨b, 2, none⟩ = some (.int .i64 (sizeN (setF S.fs i f') : Nat))) (k3 : u'.cell? ⟨b, 3, none⟩ = some (.bool (!S.off))) (k4 : u'.cell? ⟨b, 4, none⟩ = some (.int .i64 S.lives)) (kf : ∀ j, u'.frozen? ⟨b, j, none⟩ = false)
    (hf : FileD u' g f' Y') (hY : ∀ k, Y' k → (Y f.name k ∨ u.heap.size ≤ k)) (h1 : f'.safe ≤ f'.b.length) (h2 : By f'.b) :
    ∃ X' Y2, DiskI u' b { S with fs := setF S.fs i f' } X' m G Y2 ∧ Did u u' X X' ∧ u'.heap[m]? = u.heap[m]? := by
  have hfm : f ∈ S.fs := List.mem_of_getElem? hi
  have hm : u'.heap[m]? = u.heap[m]? := hc.block m (h.lt m h.xm) (fun e => e.elim (fun y => (h.foot _ _ y).2.2 rfl) h.mb)
  refine ⟨fun k => X k ∨ Y' k, fun s => if s = f.name then Y' else Y s, ⟨.inl h.own, fun k x => x.elim (fun y => Nat.lt_of_lt_of_le (h.lt k y) hc.size) (fun y => hf.lt k y), .inl h.xm, h.mb, k0, k1, k2, k3, k4, kf, ?_, ?_, ?_, ?_, ?_, ?_, ?_⟩, ⟨hc.mono (fun k _ x => x.elim (fun y => (h.foot _ _ y).1) (fun e => e ▸ h.own)), fun k x => ?_⟩, hm⟩
  · show PMap u' m (setF S.fs i f').length G
    rw [setF_length]; exact h.map.kept hm
  · intro x q hq
    obtain ⟨y, hy, e⟩ := h.only x q hq
    by_cases hyn : y.name = f.name
    · exact ⟨f', (setF_mem_iff h.dist hi hn).2 (.inl rfl), by rw [e, hyn, hn]⟩
    · exact ⟨y, (setF_mem_iff h.dist hi hn).2 (.inr ⟨hy, hyn⟩), e⟩
  · intro y hy
    rcases (setF_mem_iff h.dist hi hn).1 hy with rfl | ⟨hy, hyn⟩
    · exact ⟨g, by rw [hn]; exact hg, by rw [if_pos hn]; exact hf⟩
    · obtain ⟨q, e, hd⟩ := h.file y hy
      exact ⟨q, e, by rw [if_neg hyn]; exact hd.kept hc.size (fun k x => hc.block k (hd.lt k x) (fun e2 => e2.elim (fun y2 => hyn (h.apart _ _ k x y2)) (h.foot _ _ x).2.1))⟩
  · intro s k hk
    split at hk
    · rcases hY k hk with h' | h'
      · exact ⟨.inr hk, (h.foot _ _ h').2⟩
      · have e1 := h.lt b h.own
        have e2 := h.lt m h.xm
        exact ⟨.inr hk, by omega, by omega⟩
    · exact ⟨.inl (h.foot s k hk).1, (h.foot s k hk).2⟩
  · intro s t k hs ht
    have far : ∀ s, s ≠ f.name → Y s k → Y' k → False := fun s hne hy hy' => by
      rcases hY k hy' with h' | h'
      · exact hne (h.apart _ _ k hy h')
      · have := h.lt k (h.foot _ _ hy).1; omega
    by_cases e1 : s = f.name <;> by_cases e2 : t = f.name
    · rw [e1, e2]
    · rw [if_pos e1] at hs; rw [if_neg e2] at ht; exact (far t e2 ht hs).elim
    · rw [if_neg e1] at hs; rw [if_pos e2] at ht; exact (far s e1 hs ht).elim
    · rw [if_neg e1] at hs; rw [if_neg e2] at ht; exact h.apart s t k hs ht
  · exact setF_good h.good h1 h2 (hn ▸ h.good.names f hfm)
  · exact setF_dist h.dist hi hn
  · rcases x with x | x
    · exact ⟨.inl x, Nat.lt_of_lt_of_le (h.lt k x) hc.size⟩
    · refine ⟨?_, hf.lt k x⟩
      rcases hY k x with h' | h'
      · exact .inl (h.foot _ _ h').1
      · exact .inr h'
/-- The disk's power or its lives alone have turned. -/
theorem DiskI.power {u u' : World} {b m : Nat} {S S' : DS} {X : Foot} {G : ByteArray → Option Nat} {Y : List Int → Foot} (h : DiskI u b S X m G Y) (hS : S'.fs = S.fs ∧ S'.room = S.room)
    (hc : Chg u u' (fun k => k = b)) (k0 : u'.cell? ⟨b, 0, none⟩ = some (.map (some m))) (k1 : u'.cell? ⟨b, 1, none⟩ = some (.int .i64 S.room)) (k2 : u'.cell? ⟨b, 2, none⟩ = some (.int .i64 (sizeN S.fs : Nat))) (k3 : u'.cell? ⟨b, 3, none⟩ = some (.bool (!S'.off))) (k4 : u'.cell? ⟨b, 4, none⟩ = some (.int .i64 S'.lives)) (kf : ∀ j, u'.frozen? ⟨b, j, none⟩ = false) :
    DiskI u' b S' X m G Y ∧ Did u u' X X := by
  obtain ⟨e1, e2⟩ := hS
  have hk : ∀ k, k < u.heap.size → k ≠ b → u'.heap[k]? = u.heap[k]? := fun k hk hn => hc.block k hk hn
  refine ⟨⟨h.own, fun k x => Nat.lt_of_lt_of_le (h.lt k x) hc.size, h.xm, h.mb, k0, by rw [e2]; exact k1, by rw [e1]; exact k2, k3, k4, kf, by rw [e1]; exact h.map.kept (hk m (h.lt m h.xm) h.mb), by rw [e1]; exact h.only, ?_, h.foot, h.apart, ⟨by rw [e1]; exact h.good.safe, by rw [e1]; exact h.good.bytes, by rw [e1]; exact h.good.names⟩, by rw [e1]; exact h.dist⟩, Did.same (hc.mono (fun k _ e => by rw [e]; exact h.own)) h.lt⟩
  rw [e1]
  intro f hf
  obtain ⟨g, e, hd⟩ := h.file f hf
  exact ⟨g, e, hd.kept hc.size (fun k x => hk k (hd.lt k x) (h.foot _ _ x).2.1)⟩
end Go.Proofs.Ytlfmhdljldbjmaa
