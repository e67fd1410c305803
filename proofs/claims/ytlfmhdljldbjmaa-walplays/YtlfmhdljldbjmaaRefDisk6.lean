/-
  What the document's own disks (hourglassref8: lay of a Disk) leave: the walk.
-/
import Derived.Test.YtlfmhdljldbjmaaRefDisk5
import Derived.Test.YtlfmhdljldbjmaaMine
import Derived.Test.YtlfmhdljldbjmaaRegLast
namespace Go.Proofs.Ytlfmhdljldbjmaa
open Go.RowKit
set_option linter.unusedVariables false

/-- Where a list's first k files, and those behind them, lie. -/
theorem slice_filesT (w : World) (a : Option Addr) (ha : ∀ ad, a = some ad → ∃ bb, ad = ⟨bb, 0, none⟩) (len cap h : Nat) (hh : h ≤ cap) (hn : a = none → cap = 0) (hlen : a = none → len = 0) :
    (Instr.slice 39 (.slice a len cap) none (some (.int .i64 (h : Int))) none).run Try.prog w = .ok (.slice a h cap) w := by
  cases a with
  | none =>
    obtain rfl := hn rfl
    obtain rfl := hlen rfl
    obtain rfl : h = 0 := by omega
    kernel_rfl
  | some ad =>
    obtain ⟨bb, rfl⟩ := ha ad rfl
    obtain ⟨i0, z, hi, _⟩ := fileEl.info
    have he : Try.prog.elem 39 = 79 := by kernel_rfl
    rw [run_slice_h w 39 _ len cap (by rw [he]; exact Try.underlying39) .i64 (h : Int) (by omega) (by omega), he, run_sizeOf w hi]
    simp [sliced, addr_add]
def dropA (a : Option Addr) (cap k : Nat) : Option Addr := match a with | none => none | some ad => if cap = k then some ad else some (ad.add (k * 3))
theorem slice_filesL (w : World) (a : Option Addr) (ha : ∀ ad, a = some ad → ∃ bb, ad = ⟨bb, 0, none⟩) (len cap k : Nat) (hk : k ≤ len) (hh : len ≤ cap) (hn : a = none → cap = 0) :
    (Instr.slice 39 (.slice a len cap) (some (.int .i64 (k : Int))) none none).run Try.prog w = .ok (.slice (dropA a cap k) (len - k) (cap - k)) w := by
  cases a with
  | none =>
    obtain rfl := hn rfl
    obtain rfl : len = 0 := by omega
    obtain rfl : k = 0 := by omega
    kernel_rfl
  | some ad =>
    obtain ⟨bb, rfl⟩ := ha ad rfl
    obtain ⟨i0, z, hi, _, hsz, _⟩ := fileEl.info
    have he : Try.prog.elem 39 = 79 := by kernel_rfl
    rw [run_slice_l w 39 _ len cap (by rw [he]; exact Try.underlying39) .i64 (k : Int) (by omega) (by omega), he, run_sizeOf w hi]
    have hc : Try.prog.cellsOf 79 = 3 := by kernel_rfl
    simp [sliced, addr_add, hc, dropA]
/-- Cells that lie somewhere, behind the first k files. -/
theorem lies_dropA {u : World} {a : Option Addr} {cap k : Nat} {xs : List FCell} (ha : ∀ ad, a = some ad → ∃ bb, ad = ⟨bb, 0, none⟩) (h : Lies u a (xs.flatMap fenc)) (hl : xs.length ≤ cap) : Lies u (dropA a cap k) ((xs.drop k).flatMap fenc) := by
  by_cases hc : cap = k
  · have : xs.drop k = [] := List.drop_eq_nil_of_le (by omega)
    rw [this]; exact lies_nil _ _
  · cases a with
    | none => exact lies_none _ _
    | some ad =>
      obtain ⟨bb, rfl⟩ := ha ad rfl
      have := h.dropped (k * 3)
      rw [flat_drop xs k (fun x _ => fenc_len x)] at this
      show Lies u (if cap = k then some ⟨bb, 0, none⟩ else some ((⟨bb, 0, none⟩ : Addr).add (k * 3))) _
      rw [if_neg hc, addr_add]
      exact this
theorem lies_takeA {u : World} {a : Option Addr} {k : Nat} {xs : List FCell} (ha : ∀ ad, a = some ad → ∃ bb, ad = ⟨bb, 0, none⟩) (h : Lies u a (xs.flatMap fenc)) : Lies u a ((xs.take k).flatMap fenc) := by
  cases a with
  | none => exact lies_none _ _
  | some ad =>
    obtain ⟨bb, rfl⟩ := ha ad rfl
    have := h.taken (k * 3)
    rw [flat_take xs k (fun x _ => fenc_len x)] at this
    exact this
theorem dropA_none {a : Option Addr} {cap k : Nat} (h : dropA a cap k = none) : a = none := by
  cases a with
  | none => rfl
  | some ad => simp only [dropA] at h; split at h <;> cases h
/-- Two lists, one put in at the same place of each. -/
theorem both_at {α β : Type} {R : α → β → Prop} {l1 : List α} {l2 : List β} {a : α} {b : β} (k : Nat) (hl : l1.length = l2.length) (hk : k ≤ l1.length) (h : ∀ (i : Nat) x y, l1[i]? = some x → l2[i]? = some y → R x y) (h0 : R a b) : ∀ (i : Nat) x y, (l1.take k ++ a :: l1.drop k)[i]? = some x → (l2.take k ++ b :: l2.drop k)[i]? = some y → R x y := by
  intro i x y hx hy
  have e1 : (l1.take k).length = k := by rw [List.length_take]; omega
  have e2 : (l2.take k).length = k := by rw [List.length_take]; omega
  rcases Nat.lt_or_ge i k with h' | h'
  · rw [List.getElem?_append_left (by omega), List.getElem?_take_of_lt h'] at hx hy
    exact h i x y hx hy
  · rw [List.getElem?_append_right (by omega)] at hx hy
    rw [e1] at hx
    rw [e2] at hy
    rcases Nat.eq_zero_or_pos (i - k) with h1 | h1
    · rw [h1] at hx hy
      simp at hx hy
      subst hx; subst hy; exact h0
    · obtain ⟨d, hd⟩ : ∃ d, i - k = d + 1 := ⟨i - k - 1, by omega⟩
      rw [hd] at hx hy
      simp only [List.getElem?_cons_succ, List.getElem?_drop] at hx hy
      exact h _ x y hx hy
/-- What lay leaves. -/
theorem lay_done {w w5 : World} {b q k n B : Nat} {S : DS} {X : Foot} {f : FileV} {a a5 : Option Addr} {c c5 : Nat} {xs : List FCell} (h : DiskR w b S X) (hbuf : Buf w a c f.b (fun k => k = q) b b) (hq : q < w.heap.size) (hnm : mayN f.name = true) (hsf : f.safe ≤ f.b.length) (hfew : S.fs.length + 1 ≤ 1000) (hxl : xs.length = S.fs.length)
    (hfit : ∀ (i : Nat) g x, S.fs[i]? = some g → xs[i]? = some x → x.name = g.name ∧ x.n = g.b.length ∧ x.safe = g.safe ∧ ∃ gg, Buf w x.a x.c g.b X gg b) (hk : k ≤ S.fs.length) (hsplit : layN f S.fs = S.fs.take k ++ f :: S.fs.drop k) (hb5 : Below w.heap.size w w5) (hB : w.heap.size ≤ B) (hn : n = S.fs.length + 1)
    (hown : w5.ownsRow B 79 3 (.slice a5 n c5) n ((xs.take k ++ (⟨f.name, a, f.b.length, c, f.safe⟩ : FCell) :: xs.drop k).flatMap fenc)) :
    DiskR (w5.setCell ⟨b, 1, none⟩ (.slice a5 n c5)) b { S with fs := layN f S.fs } (fun k => X k ∨ k = q ∨ w.heap.size ≤ k ∧ k < (w5.setCell ⟨b, 1, none⟩ (.slice a5 n c5)).heap.size) ∧ Chg w (w5.setCell ⟨b, 1, none⟩ (.slice a5 n c5)) X := by
  have hbl : b < w.heap.size := h.lt b h.own
  have hlen : (layN f S.fs).length = n := by rw [lay_len, hn]
  rcases hown.2 with ⟨_, e0⟩ | ⟨g5, cap, cur, e, hg5, hblk, hle, _⟩
  · omega
  injection e with e1 e2 e3
  subst e1; subst e3
  have hg5l : g5 < w5.heap.size := (Array.getElem?_eq_some_iff.1 hblk).1
  have hg5b : g5 ≠ b := by omega
  have hlies := own_lies hown
  obtain ⟨x1, hx1⟩ : ∃ v, w.cell? ⟨b, 1, none⟩ = some v := by rcases h.list with ⟨y, _⟩ | ⟨_, _, y, _⟩ <;> exact ⟨_, y⟩
  have hx5 : w5.cell? ⟨b, 1, none⟩ = some x1 := (hb5.cell (p := ⟨b, 1, none⟩) hbl).trans hx1
  have keep : ∀ k, k ≠ b → (w5.setCell ⟨b, 1, none⟩ (.slice (some ⟨g5, 0, none⟩) n c5)).heap[k]? = w5.heap[k]? := fun k hk => Below.heap_setCell _ ⟨b, 1, none⟩ _ k hk
  have oth : ∀ j, j ≠ 1 → (w5.setCell ⟨b, 1, none⟩ (.slice (some ⟨g5, 0, none⟩) n c5)).cell? ⟨b, j, none⟩ = w.cell? ⟨b, j, none⟩ := fun j hj => (World.cell?_setCell_other _ _ _ _ (by intro e; injection e with _ e2; omega)).trans (hb5.cell (p := ⟨b, j, none⟩) hbl)
  have hs5 : (w5.setCell ⟨b, 1, none⟩ (.slice (some ⟨g5, 0, none⟩) n c5)).heap.size = w5.heap.size := World.size_setCell _ _ _
  have hpair := both_at (R := fun (g : FileV) (y : FCell) => y.name = g.name ∧ y.n = g.b.length ∧ y.safe = g.safe ∧ ∃ gg Y, Buf w y.a y.c g.b Y gg b ∧ ∀ k, Y k → (X k ∨ k = q) ∧ k < w.heap.size) (l1 := S.fs) (l2 := xs) (a := f) (b := (⟨f.name, a, f.b.length, c, f.safe⟩ : FCell)) k hxl.symm hk (fun i g y hg hy => by
    obtain ⟨z1, z2, z3, gg, z4⟩ := hfit i g y hg hy
    exact ⟨z1, z2, z3, gg, X, z4, fun k hk => ⟨.inl hk, h.lt k hk⟩⟩) ⟨rfl, rfl, rfl, b, _, hbuf, fun k hk => ⟨.inr hk, by rw [hk]; exact hq⟩⟩
  refine ⟨⟨.inl h.own, fun k hk => ?_, (oth 0 (by omega)).trans h.c0, (oth 2 (by omega)).trans h.c2, (oth 3 (by omega)).trans h.c3, fun j => by rw [World.frozen?_setCell]; exact (hb5.frozen (p := ⟨b, j, none⟩) hbl).trans (h.free j), .inr ⟨g5, c5, ?_, ?_, .inr (.inr ⟨by omega, by rw [hs5]; exact hg5l⟩), hg5b, fun j => by rw [World.frozen?_setCell]; simp [World.frozen?, hblk], fun i g hg => ?_⟩, ⟨fun x hx => ?_, fun x hx => ?_, fun x hx => ?_⟩, ?_⟩, ?_⟩
  · rw [hs5]
    rcases hk with x | x | x
    · exact Nat.lt_of_lt_of_le (h.lt k x) hb5.size
    · rw [x]; exact Nat.lt_of_lt_of_le hq hb5.size
    · rw [hs5] at x; exact x.2
  · show _ = some (Value.slice (some ⟨g5, 0, none⟩) (layN f S.fs).length c5)
    rw [hlen]; exact World.cell?_setCell_same _ _ _ hx5
  · show (layN f S.fs).length ≤ c5
    rw [hlen]; exact hle
  · have hg' : (S.fs.take k ++ f :: S.fs.drop k)[i]? = some g := by rw [← hsplit]; exact hg
    have hil : i < (xs.take k ++ (⟨f.name, a, f.b.length, c, f.safe⟩ : FCell) :: xs.drop k).length := by
      have h1 := (List.getElem?_eq_some_iff.1 hg').1
      simp at h1 ⊢
      omega
    obtain ⟨y, hy⟩ : ∃ y, (xs.take k ++ (⟨f.name, a, f.b.length, c, f.safe⟩ : FCell) :: xs.drop k)[i]? = some y := ⟨_, List.getElem?_eq_getElem hil⟩
    obtain ⟨z1, z2, z3, gg, Y, z4, z5⟩ := hpair i g y hg' hy
    have hel := hlies.el (fun x _ => fenc_len x) hy
    have k0 := hel.at 0 _ rfl
    have k1 := hel.at 1 _ rfl
    have k2 := hel.at 2 _ rfl
    rw [Nat.zero_add] at k0 k1 k2
    rw [Nat.add_zero] at k0
    have hkg := keep g5 hg5b
    refine ⟨(cell_kept hkg _).trans (by rw [k0, z1]), ⟨y.a, y.c, (cell_kept hkg _).trans (by rw [k1, z2]), ?_⟩, (cell_kept hkg _).trans (by rw [k2, z3])⟩
    have hb1 : Buf w y.a y.c g.b (fun k => X k ∨ k = q ∨ w.heap.size ≤ k ∧ k < (w5.setCell ⟨b, 1, none⟩ (.slice (some ⟨g5, 0, none⟩) n c5)).heap.size) g5 b :=
      ⟨z4.le, z4.nil, z4.row, fun ad e => by
        obtain ⟨bb, e2, y1, y2, y3⟩ := z4.own ad e
        have := (z5 bb y1).2
        exact ⟨bb, e2, (z5 bb y1).1.elim .inl (fun e => .inr (.inl e)), by omega, y3⟩⟩
    refine ⟨hb1.le, hb1.nil, ⟨hb1.row.bytes, hb1.row.cells.imp id ?_⟩, hb1.own⟩
    rintro ⟨b', o', he, hc⟩
    obtain ⟨bb, e2, y1, y2, y3⟩ := z4.own _ he
    injection e2 with e3 e4
    subst e3
    refine ⟨_, _, he, fun j hj => ?_⟩
    rw [cell_kept (keep _ y3), hb5.cell (p := ⟨b', o' + j, none⟩) (z5 b' y1).2]
    exact hc j hj
  · rw [show ({ S with fs := layN f S.fs } : DS).fs = S.fs.take k ++ f :: S.fs.drop k from hsplit] at hx
    rcases List.mem_append.1 hx with hx | hx
    · exact h.good.safe x (List.mem_of_mem_take hx)
    · rcases List.mem_cons.1 hx with rfl | hx
      · exact hsf
      · exact h.good.safe x (List.mem_of_mem_drop hx)
  · rw [show ({ S with fs := layN f S.fs } : DS).fs = S.fs.take k ++ f :: S.fs.drop k from hsplit] at hx
    rcases List.mem_append.1 hx with hx | hx
    · exact h.good.bytes x (List.mem_of_mem_take hx)
    · rcases List.mem_cons.1 hx with rfl | hx
      · exact hbuf.row.bytes
      · exact h.good.bytes x (List.mem_of_mem_drop hx)
  · rw [show ({ S with fs := layN f S.fs } : DS).fs = S.fs.take k ++ f :: S.fs.drop k from hsplit] at hx
    rcases List.mem_append.1 hx with hx | hx
    · exact h.good.names x (List.mem_of_mem_take hx)
    · rcases List.mem_cons.1 hx with rfl | hx
      · exact hnm
      · exact h.good.names x (List.mem_of_mem_drop hx)
  · show (layN f S.fs).length ≤ 1000
    omega
  · exact (Chg.of_below hb5 X).trans (Chg.set w5 ⟨b, 1, none⟩ _ h.own) (fun _ _ x => x)
set_option maxHeartbeats 4000000 in
set_option maxRecDepth 4000 in
theorem rlay_any (b : Nat) (S : DS) (X : Foot) (f : FileV) (a : Option Addr) (c : Nat) (q : Nat) (w : World) (h : DiskR w b S X) (hbuf : Buf w a c f.b (fun k => k = q) b b) (hq : q < w.heap.size) (hnm : mayN f.name = true) (hsf : f.safe ≤ f.b.length) (hfew : S.fs.length + 1 ≤ 1000) :
    Calls Try.prog 53 #[.pointer (some ⟨b, 0, none⟩), .agg #[.string (strOfNums f.name), .slice a f.b.length c, .int .i64 (f.safe : Nat)]] w fun e w' => e = .returned (.tuple #[]) ∧ DiskR w' b { S with fs := layN f S.fs } (fun k => X k ∨ k = q ∨ w.heap.size ≤ k ∧ k < w'.heap.size) ∧ Chg w w' X := by
  obtain ⟨la, cap, xs, c1, hcap, hnil, ha, hxl, hfit, hlies⟩ : ∃ (la : Option Addr) (cap : Nat) (xs : List FCell), w.cell? ⟨b, 1, none⟩ = some (.slice la S.fs.length cap) ∧ S.fs.length ≤ cap ∧ (la = none → cap = 0) ∧ (∀ ad, la = some ad → ∃ bb, ad = ⟨bb, 0, none⟩) ∧ xs.length = S.fs.length ∧ (∀ (i : Nat) g x, S.fs[i]? = some g → xs[i]? = some x → x.name = g.name ∧ x.n = g.b.length ∧ x.safe = g.safe ∧ ∃ gg, Buf w x.a x.c g.b X gg b) ∧ Lies w la (xs.flatMap fenc) := by
    rcases h.list with ⟨h1, h2⟩ | ⟨g, cap, h1, h2, h3, h4, h5, h6⟩
    · exact ⟨none, 0, [], by rw [h2]; exact h1, by rw [h2]; exact Nat.le_refl _, fun _ => rfl, (fun ad e => by cases e), by rw [h2]; rfl, (fun i g x hx => by rw [h2] at hx; simp at hx), lies_none _ _⟩
    · obtain ⟨xs, y1, y2, y3⟩ := DiskR.cells (cap := cap) h6
      exact ⟨_, cap, xs, h1, h2, (fun e => by cases e), (fun ad e => ⟨g, by injection e with e; exact e.symm⟩), y1, (fun i x y hx hy => ⟨(y2 i x y hx hy).name, (y2 i x y hx hy).n, (y2 i x y hx hy).safe, g, (y2 i x y hx hy).buf⟩), y3⟩
  obtain ⟨N, hN⟩ : ∃ N, N = S.fs.length := ⟨_, rfl⟩
  have HN : Hid (N = S.fs.length) := hN
  rw [← hN] at c1 hcap hfew hxl
  have hnilN : la = none → N = 0 := fun e => by have := hnil e; omega
  have hbl : b < w.heap.size := h.lt b h.own
  have HBF : Hid (By f.name) := may_bytes _ hnm
  have HNB : Hid (∀ g ∈ S.fs, By g.name) := fun g hg => may_bytes _ (h.good.names g hg)
  obtain ⟨V, hV⟩ : ∃ V, V = w.alloc (.cells #[.string (strOfNums f.name), .slice a f.b.length c, .int .i64 (f.safe : Nat)] 79) := ⟨_, rfl⟩
  have HVB : Hid (Below w.heap.size w V) := by rw [hV]; exact (Below.refl _ _).alloc (Nat.le_refl _) _
  have hVs : V.heap.size = w.heap.size + 1 := by rw [hV]; simp
  have HK : Hid (∀ u, Below V.heap.size V u → u.cell? ⟨b, 1, none⟩ = some (.slice la N cap) ∧ u.cell? ⟨w.heap.size, 0, none⟩ = some (.string (strOfNums f.name)) ∧ u.cell? ⟨w.heap.size, 1, none⟩ = some (.slice a f.b.length c) ∧ u.cell? ⟨w.heap.size, 2, none⟩ = some (.int .i64 (f.safe : Nat))) := fun u hb => by
    refine ⟨?_, ?_, ?_, ?_⟩
    · rw [hb.cell (p := ⟨b, 1, none⟩) (by show b < V.heap.size; omega), HVB.out.cell (p := ⟨b, 1, none⟩) hbl]; exact c1
    · rw [hb.cell (p := ⟨w.heap.size, 0, none⟩) (by show w.heap.size < V.heap.size; omega), hV, World.cell?_alloc_new]; rfl
    · rw [hb.cell (p := ⟨w.heap.size, 1, none⟩) (by show w.heap.size < V.heap.size; omega), hV, World.cell?_alloc_new]; rfl
    · rw [hb.cell (p := ⟨w.heap.size, 2, none⟩) (by show w.heap.size < V.heap.size; omega), hV, World.cell?_alloc_new]; rfl
  have HL : Hid (∀ u, Below V.heap.size V u → Lies u la (xs.flatMap fenc)) := fun u hb => by
    cases la with
    | none => exact lies_none _ _
    | some ad =>
      obtain ⟨bb, rfl⟩ := ha ad rfl
      exact (hlies.past HVB.out).past hb
  have HF : Hid (∀ (i : Nat) g, S.fs[i]? = some g → ∃ gg, la = some ⟨gg, 0, none⟩ ∧ V.cell? ⟨gg, i * 3, none⟩ = some (.string (strOfNums g.name))) := fun i g hg => by
    have hil : i < S.fs.length := (List.getElem?_eq_some_iff.1 hg).1
    obtain ⟨x, hx⟩ : ∃ x, xs[i]? = some x := ⟨_, List.getElem?_eq_getElem (by omega)⟩
    obtain ⟨e1, _⟩ := hfit i g x hg hx
    cases hla : la with
    | none => have := hnilN hla; omega
    | some ad =>
      obtain ⟨bb, rfl⟩ := ha ad hla
      refine ⟨bb, rfl, ?_⟩
      have h1 := HL.out V (Below.refl _ _)
      rw [hla] at h1
      have h2 := (h1.el (fun x _ => fenc_len x) hx).at 0 (.string (strOfNums x.name)) rfl
      rw [Nat.zero_add, Nat.add_zero] at h2
      rw [h2, e1]
  obtain ⟨d1, v0, v1, v2⟩ := HK.out V (Below.refl _ _)
  have HW : Hid (V = w.alloc (.cells #[.string (strOfNums f.name), .slice a f.b.length c, .int .i64 (f.safe : Nat)] 79)) := hV
  have HD : Hid (DiskR w b S X) := h
  have HBUF : Hid (Buf w a c f.b (fun k => k = q) b b) := hbuf
  have HFIT : Hid (∀ (i : Nat) g x, S.fs[i]? = some g → xs[i]? = some x → x.name = g.name ∧ x.n = g.b.length ∧ x.safe = g.safe ∧ ∃ gg, Buf w x.a x.c g.b X gg b) := hfit
  have HXL : Hid (xs.length = N) := hxl
  have HA : Hid (∀ ad, la = some ad → ∃ bb, ad = (⟨bb, 0, none⟩ : Addr)) := ha
  have hq0 : ∀ j, V.frozen? ⟨b, j, none⟩ = false := fun j => by rw [HVB.out.frozen (p := ⟨b, j, none⟩) hbl]; exact h.free j
  have HFZ : Hid (∀ j, V.frozen? ⟨b, j, none⟩ = false) := hq0
  clear h hbuf hfit hlies hN hxl ha c1 hq0
  go_enter Try.func53, Try.ntmps53
  go_wp2
  rw [← hV]
  clear hV
  go_loopw [4] (fun kv wr => ∃ k : Nat, kv = .int .i64 k ∧ k ≤ N ∧ Hid (Below V.heap.size V wr ∧ wr.heap = V.heap) ∧ Hid (∀ j g, j < k → S.fs[j]? = some g → Op.bytesLess (strOfNums g.name).toList (strOfNums f.name).toList = true)) (fun kv _ => N - (intOf kv).toNat)
  case atStart => exact ⟨0, rfl, Nat.zero_le _, ⟨Below.refl _ _, rfl⟩, fun j g hj => absurd hj (by omega)⟩
  case round =>
    obtain ⟨k, rfl, hk, HWR, HM⟩ := hrel
    clear d1 v0 v1 v2
    obtain ⟨d1, v0, v1, v2⟩ := HK.out wr HWR.out.1
    by_cases hlt : k < N
    · have hnl : k < S.fs.length := by rw [← HN.out]; exact hlt
      obtain ⟨g, hgk⟩ : ∃ g, S.fs[k]? = some g := ⟨_, List.getElem?_eq_getElem hnl⟩
      have HGK : Hid (S.fs[k]? = some g) := hgk
      obtain ⟨gg, rfl, cf0⟩ := HF.out k g hgk
      have cf : wr.cell? ⟨gg, k * 3, none⟩ = some (.string (strOfNums g.name)) := by
        rw [same_heap HWR.out.2]; exact cf0
      have b1 : decide ((k : Int) < (N : Int)) = true := decide_eq_true (by omega)
      clear hgk cf0
      cases hbl2 : Op.bytesLess (strOfNums g.name).toList (strOfNums f.name).toList with
      | true =>
        have HBL : Hid (Op.bytesLess (strOfNums g.name).toList (strOfNums f.name).toList = true) := hbl2
        go_wp2
        go_quiet (fail)
        go_wp2
        exact ⟨⟨k + 1, by simp, by omega, ⟨below_drewN HWR.out.1 nq, HWR.out.2⟩, fun j x hj hx => by
          rcases Nat.lt_or_ge j k with h' | h'
          · exact HM.out j x h' hx
          · obtain rfl : j = k := by omega
            rw [HGK.out] at hx
            injection hx with hx
            subst hx; exact HBL.out⟩, by simp [intOf]; omega⟩
      | false =>
        have HBL : Hid (Op.bytesLess (strOfNums g.name).toList (strOfNums f.name).toList = false) := hbl2
        go_wp2
        go_quiet (fail)
        go_wp2
        clear cf hbl2
        have HS : Hid (layN f S.fs = S.fs.take k ++ f :: S.fs.drop k) := lay_split f S.fs k (by rw [← HN.out]; exact hk) HM.out (fun x hx => by rw [HGK.out] at hx; injection hx with hx; subst hx; exact HBL.out)
        obtain ⟨U, hU⟩ : ∃ U, U = wr.drewN nq := ⟨_, rfl⟩
        have HBU : Hid (Below V.heap.size V U) := by rw [hU]; exact below_drewN HWR.out.1 nq
        rw [← hU]
        clear hU d1 v0 v1 v2 HM
        have HKU : Hid (∀ u, Below U.heap.size U u → u.cell? ⟨b, 1, none⟩ = some (.slice (some ⟨gg, 0, none⟩) N cap) ∧ u.cell? ⟨w.heap.size, 0, none⟩ = some (.string (strOfNums f.name)) ∧ u.cell? ⟨w.heap.size, 1, none⟩ = some (.slice a f.b.length c) ∧ u.cell? ⟨w.heap.size, 2, none⟩ = some (.int .i64 (f.safe : Nat)) ∧ u.frozen? ⟨b, 1, none⟩ = false) := fun u hb => by
          have hb' := HBU.out.trans (hb.mono HBU.out.size)
          exact ⟨(HK.out u hb').1, (HK.out u hb').2.1, (HK.out u hb').2.2.1, (HK.out u hb').2.2.2, (hb'.frozen (p := ⟨b, 1, none⟩) (by show b < V.heap.size; omega)).trans (HFZ.out 1)⟩
        have hsT : ∀ u, (Instr.slice 39 (.slice (some ⟨gg, 0, none⟩) N cap) none (some (.int .i64 (k : Int))) none).run Try.prog u = .ok (.slice (some ⟨gg, 0, none⟩) k cap) u := fun u => slice_filesT u _ HA.out N cap k (by omega) hnil hnilN
        obtain ⟨A2, hA2⟩ : ∃ A2, A2 = dropA ((some ⟨gg, 0, none⟩)) cap k := ⟨_, rfl⟩
        have hsL : ∀ u, (Instr.slice 39 (.slice (some ⟨gg, 0, none⟩) N cap) (some (.int .i64 (k : Int))) none none).run Try.prog u = .ok (.slice A2 (N - k) (cap - k)) u := fun u => by rw [hA2]; exact slice_filesL u _ HA.out N cap k hk hcap hnil
        obtain ⟨XF, hXF⟩ : ∃ XF : FCell, XF = ⟨f.name, a, f.b.length, c, f.safe⟩ := ⟨_, rfl⟩
        obtain ⟨AA, hAA⟩ : ∃ AA, AA = (xs.take k).flatMap fenc := ⟨_, rfl⟩
        obtain ⟨BB, hBB⟩ : ∃ BB, BB = (xs.drop k).flatMap fenc := ⟨_, rfl⟩
        have LA : Hid (AA.length = k * 3) := by show _ = _; rw [hAA, flat_len (enc := fenc) (size := 3) _ (fun x _ => fenc_len x), List.length_take, HXL.out]; omega
        have LB : Hid (BB.length = (N - k) * 3) := by show _ = _; rw [hBB, flat_len (enc := fenc) (size := 3) _ (fun x _ => fenc_len x), List.length_drop, HXL.out]
        have HLV : Hid ((fenc XF).length = 1 * 3) := rfl
        have S1 : Hid (∀ u, Below U.heap.size U u → Lies u ((some ⟨gg, 0, none⟩)) AA) := fun u hb => by rw [hAA]; exact lies_takeA HA.out (HL.out u (HBU.out.trans (hb.mono HBU.out.size)))
        have S2 : Hid (∀ u, Below U.heap.size U u → Lies u A2 BB) := fun u hb => by rw [hBB, hA2]; exact lies_dropA HA.out (HL.out u (HBU.out.trans (hb.mono HBU.out.size))) (by rw [HXL.out]; exact hcap)
        have O1 : Hid (∀ u ∈ AA, u.oneCell' = true) := by rw [hAA]; exact flat_one (fun x _ => fenc_one x)
        have O2 : Hid (∀ u ∈ BB, u.oneCell' = true) := by rw [hBB]; exact flat_one (fun x _ => fenc_one x)
        have OV : Hid (∀ u ∈ fenc XF, u.oneCell' = true) := fenc_one XF
        have N1 : Hid ((some ⟨gg, 0, none⟩ : Option Addr) = none → k = 0 ∧ cap = 0) := fun e => ⟨by have := hnilN e; omega, hnil e⟩
        have N2 : Hid (A2 = none → N - k = 0 ∧ cap - k = 0) := fun e => by
          have e' : (some ⟨gg, 0, none⟩ : Option Addr) = none := dropA_none (by rw [← hA2]; exact e)
          have h1 := hnilN e'; have h2 := hnil e'; omega
        have HEQ : Hid (AA ++ fenc XF ++ BB = (xs.take k ++ (⟨f.name, a, f.b.length, c, f.safe⟩ : FCell) :: xs.drop k).flatMap fenc) := by show _ = _; rw [hAA, hBB, hXF]; simp
        have HVC : Hid (fenc XF = [.string (strOfNums f.name), .slice a f.b.length c, .int .i64 (f.safe : Nat)]) := by show _ = _; rw [hXF]; rfl
        clear hAA hBB hA2
        subst hXF
        have HEND : Hid (∀ (w5 : World) (a5 : Option Addr) (c5 : Nat), OwnB 79 3 U w5 (.slice a5 (k + 1 + (N - k)) c5) (k + 1 + (N - k)) (AA ++ fenc (FCell.mk f.name a f.b.length c f.safe) ++ BB) → DiskR (w5.setCell ⟨b, 1, none⟩ (.slice a5 (k + 1 + (N - k)) c5)) b { S with fs := layN f S.fs } (fun kk => X kk ∨ kk = q ∨ w.heap.size ≤ kk ∧ kk < (w5.setCell ⟨b, 1, none⟩ (.slice a5 (k + 1 + (N - k)) c5)).heap.size) ∧ Chg w (w5.setCell ⟨b, 1, none⟩ (.slice a5 (k + 1 + (N - k)) c5)) X) := fun w5 a5 c5 ho => by
          have hb5 : Below w.heap.size w w5 := HVB.out.trans ((HBU.out.trans (ho.below.mono HBU.out.size)).mono HVB.out.size)
          have ho' := ho.own
          rw [HEQ.out] at ho'
          exact lay_done HD.out HBUF.out hq hnm hsf (by rw [← HN.out]; exact hfew) (by rw [HXL.out, HN.out]) HFIT.out (by rw [← HN.out]; exact hk) HS.out hb5 (Nat.le_trans HVB.out.size HBU.out.size) (by rw [← HN.out]; omega) ho'
        refine wp_region_noPanic ?_
        refine region_till 21 (fun u => Below U.heap.size U u) (by kernel_rfl) ?_ (fun hHeld => ?_)
        · exact (Below.refl _ _).drew
        refine till_take (i := 0) (v := ?_) 0 (by kernel_rfl) (Or.inl rfl) (by kernel_rfl) rfl (by kernel_rfl) (by kernel_rfl) (by kernel_rfl) (fun _ _ _ h => h) (Or.inl ⟨by rfl, ?_⟩) hHeld ?_
        rotate_left
        · intro u hSu
          (go_simp) <;> (with_reducible rfl)
        change wpTill _ _ _ _ _ _ _ _ (Act.put _ (some 27) _) _
        simp only [Act.put, List.setIfInBounds_toArray, List.set_cons_zero, List.set_cons_succ]
        refine till_take (i := 2) (v := ?_) 2 (by kernel_rfl) (Or.inl rfl) (by kernel_rfl) rfl (by kernel_rfl) (by kernel_rfl) (by kernel_rfl) (fun _ _ _ h => h) (Or.inl ⟨by rfl, ?_⟩) hHeld ?_
        rotate_left
        · intro u hSu
          (go_simp) <;> (with_reducible rfl)
        change wpTill _ _ _ _ _ _ _ _ (Act.put _ (some 29) _) _
        simp only [Act.put, List.setIfInBounds_toArray, List.set_cons_zero, List.set_cons_succ]
        refine till_take (i := 3) (v := ?_) 3 (by kernel_rfl) (Or.inl rfl) (by kernel_rfl) rfl (by kernel_rfl) (by kernel_rfl) (by kernel_rfl) (fun _ _ _ h => h) (Or.inl ⟨by rfl, ?_⟩) hHeld ?_
        rotate_left
        · intro u hSu
          (go_simp) <;> (with_reducible rfl)
        change wpTill _ _ _ _ _ _ _ _ (Act.put _ (some 30) _) _
        simp only [Act.put, List.setIfInBounds_toArray, List.set_cons_zero, List.set_cons_succ]
        refine till_take (i := 4) (v := ?_) 4 (by kernel_rfl) (Or.inl rfl) (by kernel_rfl) rfl (by kernel_rfl) (by kernel_rfl) (by kernel_rfl) (fun _ _ _ h => h) (Or.inl ⟨by rfl, ?_⟩) hHeld ?_
        rotate_left
        · intro u hSu
          (go_simp) <;> (with_reducible rfl)
        change wpTill _ _ _ _ _ _ _ _ (Act.put _ (some 31) _) _
        simp only [Act.put, List.setIfInBounds_toArray, List.set_cons_zero, List.set_cons_succ]
        refine till_take (i := 5) (v := ?_) 5 (by kernel_rfl) (Or.inl rfl) (by kernel_rfl) rfl (by kernel_rfl) (by kernel_rfl) (by kernel_rfl) (fun _ _ _ h => h) (Or.inl ⟨by rfl, ?_⟩) hHeld ?_
        rotate_left
        · intro u hSu
          obtain ⟨q1, q2, q3, q4, q5⟩ := HKU.out u hSu
          (go_simp) <;> (with_reducible rfl)
        change wpTill _ _ _ _ _ _ _ _ (Act.put _ (some 32) _) _
        simp only [Act.put, List.setIfInBounds_toArray, List.set_cons_zero, List.set_cons_succ]
        refine till_take (i := 6) (v := ?_) 6 (by kernel_rfl) (Or.inl rfl) (by kernel_rfl) rfl (by kernel_rfl) (by kernel_rfl) (by kernel_rfl) (fun _ _ _ h => h) (Or.inl ⟨by rfl, ?_⟩) hHeld ?_
        rotate_left
        · intro u hSu
          (go_simp) <;> (with_reducible rfl)
        change wpTill _ _ _ _ _ _ _ _ (Act.put _ (some 33) _) _
        simp only [Act.put, List.setIfInBounds_toArray, List.set_cons_zero, List.set_cons_succ]
        refine till_take (i := 7) (v := ?_) 7 (by kernel_rfl) (Or.inl rfl) (by kernel_rfl) rfl (by kernel_rfl) (by kernel_rfl) (by kernel_rfl) (fun _ _ _ h => h) (Or.inl ⟨by rfl, ?_⟩) hHeld ?_
        rotate_left
        · intro u hSu
          have q := hsT u
          (go_simp) <;> (with_reducible rfl)
        change wpTill _ _ _ _ _ _ _ _ (Act.put _ (some 34) _) _
        simp only [Act.put, List.setIfInBounds_toArray, List.set_cons_zero, List.set_cons_succ]
        refine till_take (i := 9) (v := ?_) 9 (by kernel_rfl) (Or.inl rfl) (by kernel_rfl) rfl (by kernel_rfl) (by kernel_rfl) (by kernel_rfl) (fun _ _ _ h => h) (Or.inl ⟨by rfl, ?_⟩) hHeld ?_
        rotate_left
        · intro u hSu
          obtain ⟨q1, q2, q3, q4, q5⟩ := HKU.out u hSu
          (go_simp) <;> (with_reducible rfl)
        change wpTill _ _ _ _ _ _ _ _ (Act.put _ (some 36) _) _
        simp only [Act.put, List.setIfInBounds_toArray, List.set_cons_zero, List.set_cons_succ]
        refine till_take (i := 12) (v := ?_) 12 (by kernel_rfl) (Or.inl rfl) (by kernel_rfl) rfl (by kernel_rfl) (by kernel_rfl) (by kernel_rfl) (fun _ _ _ h => h) (Or.inl ⟨by rfl, ?_⟩) hHeld ?_
        rotate_left
        · intro u hSu
          (go_simp) <;> (with_reducible rfl)
        change wpTill _ _ _ _ _ _ _ _ (Act.put _ (some 39) _) _
        simp only [Act.put, List.setIfInBounds_toArray, List.set_cons_zero, List.set_cons_succ]
        refine till_take (i := 13) (v := ?_) 13 (by kernel_rfl) (Or.inl rfl) (by kernel_rfl) rfl (by kernel_rfl) (by kernel_rfl) (by kernel_rfl) (fun _ _ _ h => h) (Or.inl ⟨by rfl, ?_⟩) hHeld ?_
        rotate_left
        · intro u hSu
          (go_simp) <;> (with_reducible rfl)
        change wpTill _ _ _ _ _ _ _ _ (Act.put _ (some 40) _) _
        simp only [Act.put, List.setIfInBounds_toArray, List.set_cons_zero, List.set_cons_succ]
        refine till_take (i := 14) (v := ?_) 14 (by kernel_rfl) (Or.inl rfl) (by kernel_rfl) rfl (by kernel_rfl) (by kernel_rfl) (by kernel_rfl) (fun _ _ _ h => h) (Or.inl ⟨by rfl, ?_⟩) hHeld ?_
        rotate_left
        · intro u hSu
          (go_simp) <;> (with_reducible rfl)
        change wpTill _ _ _ _ _ _ _ _ (Act.put _ (some 41) _) _
        simp only [Act.put, List.setIfInBounds_toArray, List.set_cons_zero, List.set_cons_succ]
        refine till_take (i := 15) (v := ?_) 15 (by kernel_rfl) (Or.inl rfl) (by kernel_rfl) rfl (by kernel_rfl) (by kernel_rfl) (by kernel_rfl) (fun _ _ _ h => h) (Or.inl ⟨by rfl, ?_⟩) hHeld ?_
        rotate_left
        · intro u hSu
          obtain ⟨q1, q2, q3, q4, q5⟩ := HKU.out u hSu
          (go_simp) <;> (with_reducible rfl)
        change wpTill _ _ _ _ _ _ _ _ (Act.put _ (some 42) _) _
        simp only [Act.put, List.setIfInBounds_toArray, List.set_cons_zero, List.set_cons_succ]
        refine till_take (i := 16) (v := ?_) 16 (by kernel_rfl) (Or.inl rfl) (by kernel_rfl) rfl (by kernel_rfl) (by kernel_rfl) (by kernel_rfl) (fun _ _ _ h => h) (Or.inl ⟨by rfl, ?_⟩) hHeld ?_
        rotate_left
        · intro u hSu
          (go_simp) <;> (with_reducible rfl)
        change wpTill _ _ _ _ _ _ _ _ (Act.put _ (some 43) _) _
        simp only [Act.put, List.setIfInBounds_toArray, List.set_cons_zero, List.set_cons_succ]
        refine till_take (i := 17) (v := ?_) 17 (by kernel_rfl) (Or.inl rfl) (by kernel_rfl) rfl (by kernel_rfl) (by kernel_rfl) (by kernel_rfl) (fun _ _ _ h => h) (Or.inl ⟨by rfl, ?_⟩) hHeld ?_
        rotate_left
        · intro u hSu
          have q := hsL u
          (go_simp) <;> (with_reducible rfl)
        change wpTill _ _ _ _ _ _ _ _ (Act.put _ (some 44) _) _
        simp only [Act.put, List.setIfInBounds_toArray, List.set_cons_zero, List.set_cons_succ]
        refine till_ready (rs := [1, 10]) (by kernel_rfl) (by simp) ?_
        refine AllTill.cons rfl (fun K hK => ?_) ?_
        · go_simp
          refine hK.out _ _ ?_ (fun hHeld2 => ?_)
          · exact hHeld.alloc hHeld.size _
          clear hK K hHeld
          have hHeld := hHeld2
          clear hHeld2
          refine till_ready (rs := [8, 10]) (by kernel_rfl) (by simp) ?_
          refine AllTill.cons rfl (fun K hK => ?_) ?_
          · refine step_own fileEl (w0 := U) rfl (.tmp 28) (.tmp 34) rfl _ 0 [] AA rfl (own_one 79 3 U) _ _ _ rfl LA.out (S1.out _ (own_one 79 3 U).below) O1.out N1.out k (Nat.zero_add _) (by omega) AA (List.nil_append _) ?_
            intro a3 c3 w3 h1 h2
            have HO3 : Hid (OwnB 79 3 U w3 (.slice a3 k c3) k AA) := h1
            clear h1 h2
            refine hK.out _ _ ?_ (fun hHeld2 => ?_)
            · exact HO3.out.below
            clear hK K hHeld
            have hHeld := hHeld2
            clear hHeld2
            change wpTill _ _ _ _ _ _ _ _ (Act.put _ (some 35) _) _
            simp only [Act.put, List.setIfInBounds_toArray, List.set_cons_zero, List.set_cons_succ]
            refine till_ready (rs := [10]) (by kernel_rfl) (by simp) ?_
            refine AllTill.cons rfl (fun K hK => ?_) AllTill.nil
            go_simp
            refine hK.out _ _ ?_ (fun hHeld2 => ?_)
            · exact hHeld.alloc hHeld.size _
            clear hK K hHeld
            have hHeld := hHeld2
            clear hHeld2
            refine till_ready (rs := [11]) (by kernel_rfl) (by simp) ?_
            refine AllTill.cons rfl (fun K hK => ?_) AllTill.nil
            refine step_own fileEl (w0 := U) rfl (.tmp 35) (.tmp 37) rfl _ k AA (fenc (FCell.mk f.name a f.b.length c f.safe)) rfl (HO3.out.alloc _) _ _ _ rfl HLV.out (lies_made _ _ _) OV.out (fun h => by cases h) (k + 1) rfl (by omega) (AA ++ fenc (FCell.mk f.name a f.b.length c f.safe)) rfl ?_
            intro a4 c4 w4 h1 h2
            have HO4 : Hid (OwnB 79 3 U w4 (.slice a4 (k + 1) c4) (k + 1) (AA ++ fenc (FCell.mk f.name a f.b.length c f.safe))) := h1
            clear h1 h2 HO3
            refine hK.out _ _ ?_ (fun hHeld2 => ?_)
            · exact HO4.out.below
            clear hK K hHeld
            have hHeld := hHeld2
            clear hHeld2
            change wpTill _ _ _ _ _ _ _ _ (Act.put _ (some 38) _) _
            simp only [Act.put, List.setIfInBounds_toArray, List.set_cons_zero, List.set_cons_succ]
            refine till_ready (rs := [18]) (by kernel_rfl) (by simp) ?_
            refine AllTill.cons rfl (fun K hK => ?_) AllTill.nil
            refine step_own fileEl (w0 := U) rfl (.tmp 38) (.tmp 44) rfl _ (k + 1) (AA ++ fenc (FCell.mk f.name a f.b.length c f.safe)) BB rfl HO4.out _ _ _ rfl LB.out (S2.out _ HO4.out.below) O2.out N2.out (k + 1 + (N - k)) rfl (by omega) (AA ++ fenc (FCell.mk f.name a f.b.length c f.safe) ++ BB) rfl ?_
            intro a5 c5 w5 h1 h2
            have HO5 : Hid (OwnB 79 3 U w5 (.slice a5 (k + 1 + (N - k)) c5) (k + 1 + (N - k)) (AA ++ fenc (FCell.mk f.name a f.b.length c f.safe) ++ BB)) := h1
            clear h1 h2 HO4
            refine hK.out _ _ ?_ (fun hHeld2 => ?_)
            · exact HO5.out.below
            clear hK K hHeld
            have hHeld := hHeld2
            clear hHeld2
            change wpTill _ _ _ _ _ _ _ _ (Act.put _ (some 45) _) _
            simp only [Act.put, List.setIfInBounds_toArray, List.set_cons_zero, List.set_cons_succ]
            refine till_take (i := 19) (v := ?_) 20 (by kernel_rfl) (Or.inr (by kernel_rfl)) (by kernel_rfl) rfl (by kernel_rfl) (by kernel_rfl) (by kernel_rfl) (fun _ _ _ h => h) (Or.inl ⟨by rfl, ?_⟩) hHeld ?_
            rotate_left
            · intro u hSu
              (go_simp) <;> (with_reducible rfl)
            change wpTill _ _ _ _ _ _ _ _ (Act.put _ (some 46) _) _
            simp only [Act.put, List.setIfInBounds_toArray, List.set_cons_zero, List.set_cons_succ]
            refine till_take (i := 20) (v := ?_) 20 (by kernel_rfl) (Or.inl rfl) (by kernel_rfl) rfl (by kernel_rfl) (by kernel_rfl) (by kernel_rfl) (fun _ _ _ h => h) (Or.inl ⟨by rfl, ?_⟩) hHeld ?_
            rotate_left
            · intro u hSu
              (go_simp) <;> (with_reducible rfl)
            change wpTill _ _ _ _ _ _ _ _ (Act.put _ (some 47) _) _
            simp only [Act.put, List.setIfInBounds_toArray, List.set_cons_zero, List.set_cons_succ]
            refine till_last (by kernel_rfl) (by kernel_rfl) rfl (fun K hK => ?_)
            obtain ⟨q1, q2, q3, q4, q5⟩ := HKU.out w5 HO5.out.below
            go_simp
            refine hK.out _ _ ?_
            refine NoPanic.normal ?_
            clear hK K hHeld q1 q2 q3 q4 q5
            go_wp2
            go_end0
            exact ⟨rfl, HEND.out w5 a5 c5 HO5.out⟩
          refine AllTill.cons rfl (fun K hK => ?_) AllTill.nil
          go_simp
          refine hK.out _ _ ?_ (fun hHeld2 => ?_)
          · exact hHeld.alloc hHeld.size _
          clear hK K hHeld
          have hHeld := hHeld2
          clear hHeld2
          refine till_ready (rs := [8]) (by kernel_rfl) (by simp) ?_
          refine AllTill.cons rfl (fun K hK => ?_) AllTill.nil
          refine step_own fileEl (w0 := U) rfl (.tmp 28) (.tmp 34) rfl _ 0 [] AA rfl (own_two 79 3 U _) _ _ _ rfl LA.out (S1.out _ (own_two 79 3 U _).below) O1.out N1.out k (Nat.zero_add _) (by omega) AA (List.nil_append _) ?_
          intro a3 c3 w3 h1 h2
          have HO3 : Hid (OwnB 79 3 U w3 (.slice a3 k c3) k AA) := h1
          have HX3 : Hid (Lies w3 (some ⟨U.heap.size + 1, 0, none⟩) (fenc (FCell.mk f.name a f.b.length c f.safe))) := (made_two U 79 79 #[] _ _ _).step (v' := .slice none 0 0) h2
          clear h1 h2
          refine hK.out _ _ ?_ (fun hHeld2 => ?_)
          · exact HO3.out.below
          clear hK K hHeld
          have hHeld := hHeld2
          clear hHeld2
          change wpTill _ _ _ _ _ _ _ _ (Act.put _ (some 35) _) _
          simp only [Act.put, List.setIfInBounds_toArray, List.set_cons_zero, List.set_cons_succ]
          refine till_ready (rs := [11]) (by kernel_rfl) (by simp) ?_
          refine AllTill.cons rfl (fun K hK => ?_) AllTill.nil
          refine step_own fileEl (w0 := U) rfl (.tmp 35) (.tmp 37) rfl _ k AA (fenc (FCell.mk f.name a f.b.length c f.safe)) rfl (HO3.out) _ _ _ rfl HLV.out (HX3.out) OV.out (fun h => by cases h) (k + 1) rfl (by omega) (AA ++ fenc (FCell.mk f.name a f.b.length c f.safe)) rfl ?_
          intro a4 c4 w4 h1 h2
          have HO4 : Hid (OwnB 79 3 U w4 (.slice a4 (k + 1) c4) (k + 1) (AA ++ fenc (FCell.mk f.name a f.b.length c f.safe))) := h1
          clear h1 h2 HO3
          refine hK.out _ _ ?_ (fun hHeld2 => ?_)
          · exact HO4.out.below
          clear hK K hHeld
          have hHeld := hHeld2
          clear hHeld2
          change wpTill _ _ _ _ _ _ _ _ (Act.put _ (some 38) _) _
          simp only [Act.put, List.setIfInBounds_toArray, List.set_cons_zero, List.set_cons_succ]
          refine till_ready (rs := [18]) (by kernel_rfl) (by simp) ?_
          refine AllTill.cons rfl (fun K hK => ?_) AllTill.nil
          refine step_own fileEl (w0 := U) rfl (.tmp 38) (.tmp 44) rfl _ (k + 1) (AA ++ fenc (FCell.mk f.name a f.b.length c f.safe)) BB rfl HO4.out _ _ _ rfl LB.out (S2.out _ HO4.out.below) O2.out N2.out (k + 1 + (N - k)) rfl (by omega) (AA ++ fenc (FCell.mk f.name a f.b.length c f.safe) ++ BB) rfl ?_
          intro a5 c5 w5 h1 h2
          have HO5 : Hid (OwnB 79 3 U w5 (.slice a5 (k + 1 + (N - k)) c5) (k + 1 + (N - k)) (AA ++ fenc (FCell.mk f.name a f.b.length c f.safe) ++ BB)) := h1
          clear h1 h2 HO4
          refine hK.out _ _ ?_ (fun hHeld2 => ?_)
          · exact HO5.out.below
          clear hK K hHeld
          have hHeld := hHeld2
          clear hHeld2
          change wpTill _ _ _ _ _ _ _ _ (Act.put _ (some 45) _) _
          simp only [Act.put, List.setIfInBounds_toArray, List.set_cons_zero, List.set_cons_succ]
          refine till_take (i := 19) (v := ?_) 20 (by kernel_rfl) (Or.inr (by kernel_rfl)) (by kernel_rfl) rfl (by kernel_rfl) (by kernel_rfl) (by kernel_rfl) (fun _ _ _ h => h) (Or.inl ⟨by rfl, ?_⟩) hHeld ?_
          rotate_left
          · intro u hSu
            (go_simp) <;> (with_reducible rfl)
          change wpTill _ _ _ _ _ _ _ _ (Act.put _ (some 46) _) _
          simp only [Act.put, List.setIfInBounds_toArray, List.set_cons_zero, List.set_cons_succ]
          refine till_take (i := 20) (v := ?_) 20 (by kernel_rfl) (Or.inl rfl) (by kernel_rfl) rfl (by kernel_rfl) (by kernel_rfl) (by kernel_rfl) (fun _ _ _ h => h) (Or.inl ⟨by rfl, ?_⟩) hHeld ?_
          rotate_left
          · intro u hSu
            (go_simp) <;> (with_reducible rfl)
          change wpTill _ _ _ _ _ _ _ _ (Act.put _ (some 47) _) _
          simp only [Act.put, List.setIfInBounds_toArray, List.set_cons_zero, List.set_cons_succ]
          refine till_last (by kernel_rfl) (by kernel_rfl) rfl (fun K hK => ?_)
          obtain ⟨q1, q2, q3, q4, q5⟩ := HKU.out w5 HO5.out.below
          go_simp
          refine hK.out _ _ ?_
          refine NoPanic.normal ?_
          clear hK K hHeld q1 q2 q3 q4 q5
          go_wp2
          go_end0
          exact ⟨rfl, HEND.out w5 a5 c5 HO5.out⟩
        refine AllTill.cons rfl (fun K hK => ?_) AllTill.nil
        go_simp
        refine hK.out _ _ ?_ (fun hHeld2 => ?_)
        · exact hHeld.alloc hHeld.size _
        clear hK K hHeld
        have hHeld := hHeld2
        clear hHeld2
        refine till_ready (rs := [1]) (by kernel_rfl) (by simp) ?_
        refine AllTill.cons rfl (fun K hK => ?_) AllTill.nil
        go_simp
        refine hK.out _ _ ?_ (fun hHeld2 => ?_)
        · exact hHeld.alloc hHeld.size _
        clear hK K hHeld
        have hHeld := hHeld2
        clear hHeld2
        refine till_ready (rs := [8]) (by kernel_rfl) (by simp) ?_
        refine AllTill.cons rfl (fun K hK => ?_) AllTill.nil
        refine step_own fileEl (w0 := U) rfl (.tmp 28) (.tmp 34) rfl _ 0 [] AA rfl (own_behind 79 3 U _) _ _ _ rfl LA.out (S1.out _ (own_behind 79 3 U _).below) O1.out N1.out k (Nat.zero_add _) (by omega) AA (List.nil_append _) ?_
        intro a3 c3 w3 h1 h2
        have HO3 : Hid (OwnB 79 3 U w3 (.slice a3 k c3) k AA) := h1
        have HX3 : Hid (Lies w3 (some ⟨U.heap.size, 0, none⟩) (fenc (FCell.mk f.name a f.b.length c f.safe))) := (made_ahead U 79 79 #[] _ _ _).step (v' := .slice none 0 0) h2
        clear h1 h2
        refine hK.out _ _ ?_ (fun hHeld2 => ?_)
        · exact HO3.out.below
        clear hK K hHeld
        have hHeld := hHeld2
        clear hHeld2
        change wpTill _ _ _ _ _ _ _ _ (Act.put _ (some 35) _) _
        simp only [Act.put, List.setIfInBounds_toArray, List.set_cons_zero, List.set_cons_succ]
        refine till_ready (rs := [11]) (by kernel_rfl) (by simp) ?_
        refine AllTill.cons rfl (fun K hK => ?_) AllTill.nil
        refine step_own fileEl (w0 := U) rfl (.tmp 35) (.tmp 37) rfl _ k AA (fenc (FCell.mk f.name a f.b.length c f.safe)) rfl (HO3.out) _ _ _ rfl HLV.out (HX3.out) OV.out (fun h => by cases h) (k + 1) rfl (by omega) (AA ++ fenc (FCell.mk f.name a f.b.length c f.safe)) rfl ?_
        intro a4 c4 w4 h1 h2
        have HO4 : Hid (OwnB 79 3 U w4 (.slice a4 (k + 1) c4) (k + 1) (AA ++ fenc (FCell.mk f.name a f.b.length c f.safe))) := h1
        clear h1 h2 HO3
        refine hK.out _ _ ?_ (fun hHeld2 => ?_)
        · exact HO4.out.below
        clear hK K hHeld
        have hHeld := hHeld2
        clear hHeld2
        change wpTill _ _ _ _ _ _ _ _ (Act.put _ (some 38) _) _
        simp only [Act.put, List.setIfInBounds_toArray, List.set_cons_zero, List.set_cons_succ]
        refine till_ready (rs := [18]) (by kernel_rfl) (by simp) ?_
        refine AllTill.cons rfl (fun K hK => ?_) AllTill.nil
        refine step_own fileEl (w0 := U) rfl (.tmp 38) (.tmp 44) rfl _ (k + 1) (AA ++ fenc (FCell.mk f.name a f.b.length c f.safe)) BB rfl HO4.out _ _ _ rfl LB.out (S2.out _ HO4.out.below) O2.out N2.out (k + 1 + (N - k)) rfl (by omega) (AA ++ fenc (FCell.mk f.name a f.b.length c f.safe) ++ BB) rfl ?_
        intro a5 c5 w5 h1 h2
        have HO5 : Hid (OwnB 79 3 U w5 (.slice a5 (k + 1 + (N - k)) c5) (k + 1 + (N - k)) (AA ++ fenc (FCell.mk f.name a f.b.length c f.safe) ++ BB)) := h1
        clear h1 h2 HO4
        refine hK.out _ _ ?_ (fun hHeld2 => ?_)
        · exact HO5.out.below
        clear hK K hHeld
        have hHeld := hHeld2
        clear hHeld2
        change wpTill _ _ _ _ _ _ _ _ (Act.put _ (some 45) _) _
        simp only [Act.put, List.setIfInBounds_toArray, List.set_cons_zero, List.set_cons_succ]
        refine till_take (i := 19) (v := ?_) 20 (by kernel_rfl) (Or.inr (by kernel_rfl)) (by kernel_rfl) rfl (by kernel_rfl) (by kernel_rfl) (by kernel_rfl) (fun _ _ _ h => h) (Or.inl ⟨by rfl, ?_⟩) hHeld ?_
        rotate_left
        · intro u hSu
          (go_simp) <;> (with_reducible rfl)
        change wpTill _ _ _ _ _ _ _ _ (Act.put _ (some 46) _) _
        simp only [Act.put, List.setIfInBounds_toArray, List.set_cons_zero, List.set_cons_succ]
        refine till_take (i := 20) (v := ?_) 20 (by kernel_rfl) (Or.inl rfl) (by kernel_rfl) rfl (by kernel_rfl) (by kernel_rfl) (by kernel_rfl) (fun _ _ _ h => h) (Or.inl ⟨by rfl, ?_⟩) hHeld ?_
        rotate_left
        · intro u hSu
          (go_simp) <;> (with_reducible rfl)
        change wpTill _ _ _ _ _ _ _ _ (Act.put _ (some 47) _) _
        simp only [Act.put, List.setIfInBounds_toArray, List.set_cons_zero, List.set_cons_succ]
        refine till_last (by kernel_rfl) (by kernel_rfl) rfl (fun K hK => ?_)
        obtain ⟨q1, q2, q3, q4, q5⟩ := HKU.out w5 HO5.out.below
        go_simp
        refine hK.out _ _ ?_
        refine NoPanic.normal ?_
        clear hK K hHeld q1 q2 q3 q4 q5
        go_wp2
        go_end0
        exact ⟨rfl, HEND.out w5 a5 c5 HO5.out⟩
    · have b1 : decide ((k : Int) < (N : Int)) = false := decide_eq_false (by omega)
      go_wp2
      go_quiet (fail)
      go_wp2
      have HS : Hid (layN f S.fs = S.fs.take k ++ f :: S.fs.drop k) := lay_split f S.fs k (by rw [← HN.out]; exact hk) HM.out (fun x hx => by rw [List.getElem?_eq_none (by rw [← HN.out]; omega)] at hx; cases hx)
      obtain ⟨U, hU⟩ : ∃ U, U = wr.drewN nq := ⟨_, rfl⟩
      have HBU : Hid (Below V.heap.size V U) := by rw [hU]; exact below_drewN HWR.out.1 nq
      rw [← hU]
      clear hU d1 v0 v1 v2 HM
      have HKU : Hid (∀ u, Below U.heap.size U u → u.cell? ⟨b, 1, none⟩ = some (.slice la N cap) ∧ u.cell? ⟨w.heap.size, 0, none⟩ = some (.string (strOfNums f.name)) ∧ u.cell? ⟨w.heap.size, 1, none⟩ = some (.slice a f.b.length c) ∧ u.cell? ⟨w.heap.size, 2, none⟩ = some (.int .i64 (f.safe : Nat)) ∧ u.frozen? ⟨b, 1, none⟩ = false) := fun u hb => by
        have hb' := HBU.out.trans (hb.mono HBU.out.size)
        exact ⟨(HK.out u hb').1, (HK.out u hb').2.1, (HK.out u hb').2.2.1, (HK.out u hb').2.2.2, (hb'.frozen (p := ⟨b, 1, none⟩) (by show b < V.heap.size; omega)).trans (HFZ.out 1)⟩
      have hsT : ∀ u, (Instr.slice 39 (.slice la N cap) none (some (.int .i64 (k : Int))) none).run Try.prog u = .ok (.slice la k cap) u := fun u => slice_filesT u _ HA.out N cap k (by omega) hnil hnilN
      obtain ⟨A2, hA2⟩ : ∃ A2, A2 = dropA (la) cap k := ⟨_, rfl⟩
      have hsL : ∀ u, (Instr.slice 39 (.slice la N cap) (some (.int .i64 (k : Int))) none none).run Try.prog u = .ok (.slice A2 (N - k) (cap - k)) u := fun u => by rw [hA2]; exact slice_filesL u _ HA.out N cap k hk hcap hnil
      obtain ⟨XF, hXF⟩ : ∃ XF : FCell, XF = ⟨f.name, a, f.b.length, c, f.safe⟩ := ⟨_, rfl⟩
      obtain ⟨AA, hAA⟩ : ∃ AA, AA = (xs.take k).flatMap fenc := ⟨_, rfl⟩
      obtain ⟨BB, hBB⟩ : ∃ BB, BB = (xs.drop k).flatMap fenc := ⟨_, rfl⟩
      have LA : Hid (AA.length = k * 3) := by show _ = _; rw [hAA, flat_len (enc := fenc) (size := 3) _ (fun x _ => fenc_len x), List.length_take, HXL.out]; omega
      have LB : Hid (BB.length = (N - k) * 3) := by show _ = _; rw [hBB, flat_len (enc := fenc) (size := 3) _ (fun x _ => fenc_len x), List.length_drop, HXL.out]
      have HLV : Hid ((fenc XF).length = 1 * 3) := rfl
      have S1 : Hid (∀ u, Below U.heap.size U u → Lies u (la) AA) := fun u hb => by rw [hAA]; exact lies_takeA HA.out (HL.out u (HBU.out.trans (hb.mono HBU.out.size)))
      have S2 : Hid (∀ u, Below U.heap.size U u → Lies u A2 BB) := fun u hb => by rw [hBB, hA2]; exact lies_dropA HA.out (HL.out u (HBU.out.trans (hb.mono HBU.out.size))) (by rw [HXL.out]; exact hcap)
      have O1 : Hid (∀ u ∈ AA, u.oneCell' = true) := by rw [hAA]; exact flat_one (fun x _ => fenc_one x)
      have O2 : Hid (∀ u ∈ BB, u.oneCell' = true) := by rw [hBB]; exact flat_one (fun x _ => fenc_one x)
      have OV : Hid (∀ u ∈ fenc XF, u.oneCell' = true) := fenc_one XF
      have N1 : Hid (la = none → k = 0 ∧ cap = 0) := fun e => ⟨by have := hnilN e; omega, hnil e⟩
      have N2 : Hid (A2 = none → N - k = 0 ∧ cap - k = 0) := fun e => by
        have e' : la = none := dropA_none (by rw [← hA2]; exact e)
        have h1 := hnilN e'; have h2 := hnil e'; omega
      have HEQ : Hid (AA ++ fenc XF ++ BB = (xs.take k ++ (⟨f.name, a, f.b.length, c, f.safe⟩ : FCell) :: xs.drop k).flatMap fenc) := by show _ = _; rw [hAA, hBB, hXF]; simp
      have HVC : Hid (fenc XF = [.string (strOfNums f.name), .slice a f.b.length c, .int .i64 (f.safe : Nat)]) := by show _ = _; rw [hXF]; rfl
      clear hAA hBB hA2
      subst hXF
      have HEND : Hid (∀ (w5 : World) (a5 : Option Addr) (c5 : Nat), OwnB 79 3 U w5 (.slice a5 (k + 1 + (N - k)) c5) (k + 1 + (N - k)) (AA ++ fenc (FCell.mk f.name a f.b.length c f.safe) ++ BB) → DiskR (w5.setCell ⟨b, 1, none⟩ (.slice a5 (k + 1 + (N - k)) c5)) b { S with fs := layN f S.fs } (fun kk => X kk ∨ kk = q ∨ w.heap.size ≤ kk ∧ kk < (w5.setCell ⟨b, 1, none⟩ (.slice a5 (k + 1 + (N - k)) c5)).heap.size) ∧ Chg w (w5.setCell ⟨b, 1, none⟩ (.slice a5 (k + 1 + (N - k)) c5)) X) := fun w5 a5 c5 ho => by
        have hb5 : Below w.heap.size w w5 := HVB.out.trans ((HBU.out.trans (ho.below.mono HBU.out.size)).mono HVB.out.size)
        have ho' := ho.own
        rw [HEQ.out] at ho'
        exact lay_done HD.out HBUF.out hq hnm hsf (by rw [← HN.out]; exact hfew) (by rw [HXL.out, HN.out]) HFIT.out (by rw [← HN.out]; exact hk) HS.out hb5 (Nat.le_trans HVB.out.size HBU.out.size) (by rw [← HN.out]; omega) ho'
      refine wp_region_noPanic ?_
      refine region_till 21 (fun u => Below U.heap.size U u) (by kernel_rfl) ?_ (fun hHeld => ?_)
      · exact (Below.refl _ _).drew
      refine till_take (i := 0) (v := ?_) 0 (by kernel_rfl) (Or.inl rfl) (by kernel_rfl) rfl (by kernel_rfl) (by kernel_rfl) (by kernel_rfl) (fun _ _ _ h => h) (Or.inl ⟨by rfl, ?_⟩) hHeld ?_
      rotate_left
      · intro u hSu
        (go_simp) <;> (with_reducible rfl)
      change wpTill _ _ _ _ _ _ _ _ (Act.put _ (some 27) _) _
      simp only [Act.put, List.setIfInBounds_toArray, List.set_cons_zero, List.set_cons_succ]
      refine till_take (i := 2) (v := ?_) 2 (by kernel_rfl) (Or.inl rfl) (by kernel_rfl) rfl (by kernel_rfl) (by kernel_rfl) (by kernel_rfl) (fun _ _ _ h => h) (Or.inl ⟨by rfl, ?_⟩) hHeld ?_
      rotate_left
      · intro u hSu
        (go_simp) <;> (with_reducible rfl)
      change wpTill _ _ _ _ _ _ _ _ (Act.put _ (some 29) _) _
      simp only [Act.put, List.setIfInBounds_toArray, List.set_cons_zero, List.set_cons_succ]
      refine till_take (i := 3) (v := ?_) 3 (by kernel_rfl) (Or.inl rfl) (by kernel_rfl) rfl (by kernel_rfl) (by kernel_rfl) (by kernel_rfl) (fun _ _ _ h => h) (Or.inl ⟨by rfl, ?_⟩) hHeld ?_
      rotate_left
      · intro u hSu
        (go_simp) <;> (with_reducible rfl)
      change wpTill _ _ _ _ _ _ _ _ (Act.put _ (some 30) _) _
      simp only [Act.put, List.setIfInBounds_toArray, List.set_cons_zero, List.set_cons_succ]
      refine till_take (i := 4) (v := ?_) 4 (by kernel_rfl) (Or.inl rfl) (by kernel_rfl) rfl (by kernel_rfl) (by kernel_rfl) (by kernel_rfl) (fun _ _ _ h => h) (Or.inl ⟨by rfl, ?_⟩) hHeld ?_
      rotate_left
      · intro u hSu
        (go_simp) <;> (with_reducible rfl)
      change wpTill _ _ _ _ _ _ _ _ (Act.put _ (some 31) _) _
      simp only [Act.put, List.setIfInBounds_toArray, List.set_cons_zero, List.set_cons_succ]
      refine till_take (i := 5) (v := ?_) 5 (by kernel_rfl) (Or.inl rfl) (by kernel_rfl) rfl (by kernel_rfl) (by kernel_rfl) (by kernel_rfl) (fun _ _ _ h => h) (Or.inl ⟨by rfl, ?_⟩) hHeld ?_
      rotate_left
      · intro u hSu
        obtain ⟨q1, q2, q3, q4, q5⟩ := HKU.out u hSu
        (go_simp) <;> (with_reducible rfl)
      change wpTill _ _ _ _ _ _ _ _ (Act.put _ (some 32) _) _
      simp only [Act.put, List.setIfInBounds_toArray, List.set_cons_zero, List.set_cons_succ]
      refine till_take (i := 6) (v := ?_) 6 (by kernel_rfl) (Or.inl rfl) (by kernel_rfl) rfl (by kernel_rfl) (by kernel_rfl) (by kernel_rfl) (fun _ _ _ h => h) (Or.inl ⟨by rfl, ?_⟩) hHeld ?_
      rotate_left
      · intro u hSu
        (go_simp) <;> (with_reducible rfl)
      change wpTill _ _ _ _ _ _ _ _ (Act.put _ (some 33) _) _
      simp only [Act.put, List.setIfInBounds_toArray, List.set_cons_zero, List.set_cons_succ]
      refine till_take (i := 7) (v := ?_) 7 (by kernel_rfl) (Or.inl rfl) (by kernel_rfl) rfl (by kernel_rfl) (by kernel_rfl) (by kernel_rfl) (fun _ _ _ h => h) (Or.inl ⟨by rfl, ?_⟩) hHeld ?_
      rotate_left
      · intro u hSu
        have q := hsT u
        (go_simp) <;> (with_reducible rfl)
      change wpTill _ _ _ _ _ _ _ _ (Act.put _ (some 34) _) _
      simp only [Act.put, List.setIfInBounds_toArray, List.set_cons_zero, List.set_cons_succ]
      refine till_take (i := 9) (v := ?_) 9 (by kernel_rfl) (Or.inl rfl) (by kernel_rfl) rfl (by kernel_rfl) (by kernel_rfl) (by kernel_rfl) (fun _ _ _ h => h) (Or.inl ⟨by rfl, ?_⟩) hHeld ?_
      rotate_left
      · intro u hSu
        obtain ⟨q1, q2, q3, q4, q5⟩ := HKU.out u hSu
        (go_simp) <;> (with_reducible rfl)
      change wpTill _ _ _ _ _ _ _ _ (Act.put _ (some 36) _) _
      simp only [Act.put, List.setIfInBounds_toArray, List.set_cons_zero, List.set_cons_succ]
      refine till_take (i := 12) (v := ?_) 12 (by kernel_rfl) (Or.inl rfl) (by kernel_rfl) rfl (by kernel_rfl) (by kernel_rfl) (by kernel_rfl) (fun _ _ _ h => h) (Or.inl ⟨by rfl, ?_⟩) hHeld ?_
      rotate_left
      · intro u hSu
        (go_simp) <;> (with_reducible rfl)
      change wpTill _ _ _ _ _ _ _ _ (Act.put _ (some 39) _) _
      simp only [Act.put, List.setIfInBounds_toArray, List.set_cons_zero, List.set_cons_succ]
      refine till_take (i := 13) (v := ?_) 13 (by kernel_rfl) (Or.inl rfl) (by kernel_rfl) rfl (by kernel_rfl) (by kernel_rfl) (by kernel_rfl) (fun _ _ _ h => h) (Or.inl ⟨by rfl, ?_⟩) hHeld ?_
      rotate_left
      · intro u hSu
        (go_simp) <;> (with_reducible rfl)
      change wpTill _ _ _ _ _ _ _ _ (Act.put _ (some 40) _) _
      simp only [Act.put, List.setIfInBounds_toArray, List.set_cons_zero, List.set_cons_succ]
      refine till_take (i := 14) (v := ?_) 14 (by kernel_rfl) (Or.inl rfl) (by kernel_rfl) rfl (by kernel_rfl) (by kernel_rfl) (by kernel_rfl) (fun _ _ _ h => h) (Or.inl ⟨by rfl, ?_⟩) hHeld ?_
      rotate_left
      · intro u hSu
        (go_simp) <;> (with_reducible rfl)
      change wpTill _ _ _ _ _ _ _ _ (Act.put _ (some 41) _) _
      simp only [Act.put, List.setIfInBounds_toArray, List.set_cons_zero, List.set_cons_succ]
      refine till_take (i := 15) (v := ?_) 15 (by kernel_rfl) (Or.inl rfl) (by kernel_rfl) rfl (by kernel_rfl) (by kernel_rfl) (by kernel_rfl) (fun _ _ _ h => h) (Or.inl ⟨by rfl, ?_⟩) hHeld ?_
      rotate_left
      · intro u hSu
        obtain ⟨q1, q2, q3, q4, q5⟩ := HKU.out u hSu
        (go_simp) <;> (with_reducible rfl)
      change wpTill _ _ _ _ _ _ _ _ (Act.put _ (some 42) _) _
      simp only [Act.put, List.setIfInBounds_toArray, List.set_cons_zero, List.set_cons_succ]
      refine till_take (i := 16) (v := ?_) 16 (by kernel_rfl) (Or.inl rfl) (by kernel_rfl) rfl (by kernel_rfl) (by kernel_rfl) (by kernel_rfl) (fun _ _ _ h => h) (Or.inl ⟨by rfl, ?_⟩) hHeld ?_
      rotate_left
      · intro u hSu
        (go_simp) <;> (with_reducible rfl)
      change wpTill _ _ _ _ _ _ _ _ (Act.put _ (some 43) _) _
      simp only [Act.put, List.setIfInBounds_toArray, List.set_cons_zero, List.set_cons_succ]
      refine till_take (i := 17) (v := ?_) 17 (by kernel_rfl) (Or.inl rfl) (by kernel_rfl) rfl (by kernel_rfl) (by kernel_rfl) (by kernel_rfl) (fun _ _ _ h => h) (Or.inl ⟨by rfl, ?_⟩) hHeld ?_
      rotate_left
      · intro u hSu
        have q := hsL u
        (go_simp) <;> (with_reducible rfl)
      change wpTill _ _ _ _ _ _ _ _ (Act.put _ (some 44) _) _
      simp only [Act.put, List.setIfInBounds_toArray, List.set_cons_zero, List.set_cons_succ]
      refine till_ready (rs := [1, 10]) (by kernel_rfl) (by simp) ?_
      refine AllTill.cons rfl (fun K hK => ?_) ?_
      · go_simp
        refine hK.out _ _ ?_ (fun hHeld2 => ?_)
        · exact hHeld.alloc hHeld.size _
        clear hK K hHeld
        have hHeld := hHeld2
        clear hHeld2
        refine till_ready (rs := [8, 10]) (by kernel_rfl) (by simp) ?_
        refine AllTill.cons rfl (fun K hK => ?_) ?_
        · refine step_own fileEl (w0 := U) rfl (.tmp 28) (.tmp 34) rfl _ 0 [] AA rfl (own_one 79 3 U) _ _ _ rfl LA.out (S1.out _ (own_one 79 3 U).below) O1.out N1.out k (Nat.zero_add _) (by omega) AA (List.nil_append _) ?_
          intro a3 c3 w3 h1 h2
          have HO3 : Hid (OwnB 79 3 U w3 (.slice a3 k c3) k AA) := h1
          clear h1 h2
          refine hK.out _ _ ?_ (fun hHeld2 => ?_)
          · exact HO3.out.below
          clear hK K hHeld
          have hHeld := hHeld2
          clear hHeld2
          change wpTill _ _ _ _ _ _ _ _ (Act.put _ (some 35) _) _
          simp only [Act.put, List.setIfInBounds_toArray, List.set_cons_zero, List.set_cons_succ]
          refine till_ready (rs := [10]) (by kernel_rfl) (by simp) ?_
          refine AllTill.cons rfl (fun K hK => ?_) AllTill.nil
          go_simp
          refine hK.out _ _ ?_ (fun hHeld2 => ?_)
          · exact hHeld.alloc hHeld.size _
          clear hK K hHeld
          have hHeld := hHeld2
          clear hHeld2
          refine till_ready (rs := [11]) (by kernel_rfl) (by simp) ?_
          refine AllTill.cons rfl (fun K hK => ?_) AllTill.nil
          refine step_own fileEl (w0 := U) rfl (.tmp 35) (.tmp 37) rfl _ k AA (fenc (FCell.mk f.name a f.b.length c f.safe)) rfl (HO3.out.alloc _) _ _ _ rfl HLV.out (lies_made _ _ _) OV.out (fun h => by cases h) (k + 1) rfl (by omega) (AA ++ fenc (FCell.mk f.name a f.b.length c f.safe)) rfl ?_
          intro a4 c4 w4 h1 h2
          have HO4 : Hid (OwnB 79 3 U w4 (.slice a4 (k + 1) c4) (k + 1) (AA ++ fenc (FCell.mk f.name a f.b.length c f.safe))) := h1
          clear h1 h2 HO3
          refine hK.out _ _ ?_ (fun hHeld2 => ?_)
          · exact HO4.out.below
          clear hK K hHeld
          have hHeld := hHeld2
          clear hHeld2
          change wpTill _ _ _ _ _ _ _ _ (Act.put _ (some 38) _) _
          simp only [Act.put, List.setIfInBounds_toArray, List.set_cons_zero, List.set_cons_succ]
          refine till_ready (rs := [18]) (by kernel_rfl) (by simp) ?_
          refine AllTill.cons rfl (fun K hK => ?_) AllTill.nil
          refine step_own fileEl (w0 := U) rfl (.tmp 38) (.tmp 44) rfl _ (k + 1) (AA ++ fenc (FCell.mk f.name a f.b.length c f.safe)) BB rfl HO4.out _ _ _ rfl LB.out (S2.out _ HO4.out.below) O2.out N2.out (k + 1 + (N - k)) rfl (by omega) (AA ++ fenc (FCell.mk f.name a f.b.length c f.safe) ++ BB) rfl ?_
          intro a5 c5 w5 h1 h2
          have HO5 : Hid (OwnB 79 3 U w5 (.slice a5 (k + 1 + (N - k)) c5) (k + 1 + (N - k)) (AA ++ fenc (FCell.mk f.name a f.b.length c f.safe) ++ BB)) := h1
          clear h1 h2 HO4
          refine hK.out _ _ ?_ (fun hHeld2 => ?_)
          · exact HO5.out.below
          clear hK K hHeld
          have hHeld := hHeld2
          clear hHeld2
          change wpTill _ _ _ _ _ _ _ _ (Act.put _ (some 45) _) _
          simp only [Act.put, List.setIfInBounds_toArray, List.set_cons_zero, List.set_cons_succ]
          refine till_take (i := 19) (v := ?_) 20 (by kernel_rfl) (Or.inr (by kernel_rfl)) (by kernel_rfl) rfl (by kernel_rfl) (by kernel_rfl) (by kernel_rfl) (fun _ _ _ h => h) (Or.inl ⟨by rfl, ?_⟩) hHeld ?_
          rotate_left
          · intro u hSu
            (go_simp) <;> (with_reducible rfl)
          change wpTill _ _ _ _ _ _ _ _ (Act.put _ (some 46) _) _
          simp only [Act.put, List.setIfInBounds_toArray, List.set_cons_zero, List.set_cons_succ]
          refine till_take (i := 20) (v := ?_) 20 (by kernel_rfl) (Or.inl rfl) (by kernel_rfl) rfl (by kernel_rfl) (by kernel_rfl) (by kernel_rfl) (fun _ _ _ h => h) (Or.inl ⟨by rfl, ?_⟩) hHeld ?_
          rotate_left
          · intro u hSu
            (go_simp) <;> (with_reducible rfl)
          change wpTill _ _ _ _ _ _ _ _ (Act.put _ (some 47) _) _
          simp only [Act.put, List.setIfInBounds_toArray, List.set_cons_zero, List.set_cons_succ]
          refine till_last (by kernel_rfl) (by kernel_rfl) rfl (fun K hK => ?_)
          obtain ⟨q1, q2, q3, q4, q5⟩ := HKU.out w5 HO5.out.below
          go_simp
          refine hK.out _ _ ?_
          refine NoPanic.normal ?_
          clear hK K hHeld q1 q2 q3 q4 q5
          go_wp2
          go_end0
          exact ⟨rfl, HEND.out w5 a5 c5 HO5.out⟩
        refine AllTill.cons rfl (fun K hK => ?_) AllTill.nil
        go_simp
        refine hK.out _ _ ?_ (fun hHeld2 => ?_)
        · exact hHeld.alloc hHeld.size _
        clear hK K hHeld
        have hHeld := hHeld2
        clear hHeld2
        refine till_ready (rs := [8]) (by kernel_rfl) (by simp) ?_
        refine AllTill.cons rfl (fun K hK => ?_) AllTill.nil
        refine step_own fileEl (w0 := U) rfl (.tmp 28) (.tmp 34) rfl _ 0 [] AA rfl (own_two 79 3 U _) _ _ _ rfl LA.out (S1.out _ (own_two 79 3 U _).below) O1.out N1.out k (Nat.zero_add _) (by omega) AA (List.nil_append _) ?_
        intro a3 c3 w3 h1 h2
        have HO3 : Hid (OwnB 79 3 U w3 (.slice a3 k c3) k AA) := h1
        have HX3 : Hid (Lies w3 (some ⟨U.heap.size + 1, 0, none⟩) (fenc (FCell.mk f.name a f.b.length c f.safe))) := (made_two U 79 79 #[] _ _ _).step (v' := .slice none 0 0) h2
        clear h1 h2
        refine hK.out _ _ ?_ (fun hHeld2 => ?_)
        · exact HO3.out.below
        clear hK K hHeld
        have hHeld := hHeld2
        clear hHeld2
        change wpTill _ _ _ _ _ _ _ _ (Act.put _ (some 35) _) _
        simp only [Act.put, List.setIfInBounds_toArray, List.set_cons_zero, List.set_cons_succ]
        refine till_ready (rs := [11]) (by kernel_rfl) (by simp) ?_
        refine AllTill.cons rfl (fun K hK => ?_) AllTill.nil
        refine step_own fileEl (w0 := U) rfl (.tmp 35) (.tmp 37) rfl _ k AA (fenc (FCell.mk f.name a f.b.length c f.safe)) rfl (HO3.out) _ _ _ rfl HLV.out (HX3.out) OV.out (fun h => by cases h) (k + 1) rfl (by omega) (AA ++ fenc (FCell.mk f.name a f.b.length c f.safe)) rfl ?_
        intro a4 c4 w4 h1 h2
        have HO4 : Hid (OwnB 79 3 U w4 (.slice a4 (k + 1) c4) (k + 1) (AA ++ fenc (FCell.mk f.name a f.b.length c f.safe))) := h1
        clear h1 h2 HO3
        refine hK.out _ _ ?_ (fun hHeld2 => ?_)
        · exact HO4.out.below
        clear hK K hHeld
        have hHeld := hHeld2
        clear hHeld2
        change wpTill _ _ _ _ _ _ _ _ (Act.put _ (some 38) _) _
        simp only [Act.put, List.setIfInBounds_toArray, List.set_cons_zero, List.set_cons_succ]
        refine till_ready (rs := [18]) (by kernel_rfl) (by simp) ?_
        refine AllTill.cons rfl (fun K hK => ?_) AllTill.nil
        refine step_own fileEl (w0 := U) rfl (.tmp 38) (.tmp 44) rfl _ (k + 1) (AA ++ fenc (FCell.mk f.name a f.b.length c f.safe)) BB rfl HO4.out _ _ _ rfl LB.out (S2.out _ HO4.out.below) O2.out N2.out (k + 1 + (N - k)) rfl (by omega) (AA ++ fenc (FCell.mk f.name a f.b.length c f.safe) ++ BB) rfl ?_
        intro a5 c5 w5 h1 h2
        have HO5 : Hid (OwnB 79 3 U w5 (.slice a5 (k + 1 + (N - k)) c5) (k + 1 + (N - k)) (AA ++ fenc (FCell.mk f.name a f.b.length c f.safe) ++ BB)) := h1
        clear h1 h2 HO4
        refine hK.out _ _ ?_ (fun hHeld2 => ?_)
        · exact HO5.out.below
        clear hK K hHeld
        have hHeld := hHeld2
        clear hHeld2
        change wpTill _ _ _ _ _ _ _ _ (Act.put _ (some 45) _) _
        simp only [Act.put, List.setIfInBounds_toArray, List.set_cons_zero, List.set_cons_succ]
        refine till_take (i := 19) (v := ?_) 20 (by kernel_rfl) (Or.inr (by kernel_rfl)) (by kernel_rfl) rfl (by kernel_rfl) (by kernel_rfl) (by kernel_rfl) (fun _ _ _ h => h) (Or.inl ⟨by rfl, ?_⟩) hHeld ?_
        rotate_left
        · intro u hSu
          (go_simp) <;> (with_reducible rfl)
        change wpTill _ _ _ _ _ _ _ _ (Act.put _ (some 46) _) _
        simp only [Act.put, List.setIfInBounds_toArray, List.set_cons_zero, List.set_cons_succ]
        refine till_take (i := 20) (v := ?_) 20 (by kernel_rfl) (Or.inl rfl) (by kernel_rfl) rfl (by kernel_rfl) (by kernel_rfl) (by kernel_rfl) (fun _ _ _ h => h) (Or.inl ⟨by rfl, ?_⟩) hHeld ?_
        rotate_left
        · intro u hSu
          (go_simp) <;> (with_reducible rfl)
        change wpTill _ _ _ _ _ _ _ _ (Act.put _ (some 47) _) _
        simp only [Act.put, List.setIfInBounds_toArray, List.set_cons_zero, List.set_cons_succ]
        refine till_last (by kernel_rfl) (by kernel_rfl) rfl (fun K hK => ?_)
        obtain ⟨q1, q2, q3, q4, q5⟩ := HKU.out w5 HO5.out.below
        go_simp
        refine hK.out _ _ ?_
        refine NoPanic.normal ?_
        clear hK K hHeld q1 q2 q3 q4 q5
        go_wp2
        go_end0
        exact ⟨rfl, HEND.out w5 a5 c5 HO5.out⟩
      refine AllTill.cons rfl (fun K hK => ?_) AllTill.nil
      go_simp
      refine hK.out _ _ ?_ (fun hHeld2 => ?_)
      · exact hHeld.alloc hHeld.size _
      clear hK K hHeld
      have hHeld := hHeld2
      clear hHeld2
      refine till_ready (rs := [1]) (by kernel_rfl) (by simp) ?_
      refine AllTill.cons rfl (fun K hK => ?_) AllTill.nil
      go_simp
      refine hK.out _ _ ?_ (fun hHeld2 => ?_)
      · exact hHeld.alloc hHeld.size _
      clear hK K hHeld
      have hHeld := hHeld2
      clear hHeld2
      refine till_ready (rs := [8]) (by kernel_rfl) (by simp) ?_
      refine AllTill.cons rfl (fun K hK => ?_) AllTill.nil
      refine step_own fileEl (w0 := U) rfl (.tmp 28) (.tmp 34) rfl _ 0 [] AA rfl (own_behind 79 3 U _) _ _ _ rfl LA.out (S1.out _ (own_behind 79 3 U _).below) O1.out N1.out k (Nat.zero_add _) (by omega) AA (List.nil_append _) ?_
      intro a3 c3 w3 h1 h2
      have HO3 : Hid (OwnB 79 3 U w3 (.slice a3 k c3) k AA) := h1
      have HX3 : Hid (Lies w3 (some ⟨U.heap.size, 0, none⟩) (fenc (FCell.mk f.name a f.b.length c f.safe))) := (made_ahead U 79 79 #[] _ _ _).step (v' := .slice none 0 0) h2
      clear h1 h2
      refine hK.out _ _ ?_ (fun hHeld2 => ?_)
      · exact HO3.out.below
      clear hK K hHeld
      have hHeld := hHeld2
      clear hHeld2
      change wpTill _ _ _ _ _ _ _ _ (Act.put _ (some 35) _) _
      simp only [Act.put, List.setIfInBounds_toArray, List.set_cons_zero, List.set_cons_succ]
      refine till_ready (rs := [11]) (by kernel_rfl) (by simp) ?_
      refine AllTill.cons rfl (fun K hK => ?_) AllTill.nil
      refine step_own fileEl (w0 := U) rfl (.tmp 35) (.tmp 37) rfl _ k AA (fenc (FCell.mk f.name a f.b.length c f.safe)) rfl (HO3.out) _ _ _ rfl HLV.out (HX3.out) OV.out (fun h => by cases h) (k + 1) rfl (by omega) (AA ++ fenc (FCell.mk f.name a f.b.length c f.safe)) rfl ?_
      intro a4 c4 w4 h1 h2
      have HO4 : Hid (OwnB 79 3 U w4 (.slice a4 (k + 1) c4) (k + 1) (AA ++ fenc (FCell.mk f.name a f.b.length c f.safe))) := h1
      clear h1 h2 HO3
      refine hK.out _ _ ?_ (fun hHeld2 => ?_)
      · exact HO4.out.below
      clear hK K hHeld
      have hHeld := hHeld2
      clear hHeld2
      change wpTill _ _ _ _ _ _ _ _ (Act.put _ (some 38) _) _
      simp only [Act.put, List.setIfInBounds_toArray, List.set_cons_zero, List.set_cons_succ]
      refine till_ready (rs := [18]) (by kernel_rfl) (by simp) ?_
      refine AllTill.cons rfl (fun K hK => ?_) AllTill.nil
      refine step_own fileEl (w0 := U) rfl (.tmp 38) (.tmp 44) rfl _ (k + 1) (AA ++ fenc (FCell.mk f.name a f.b.length c f.safe)) BB rfl HO4.out _ _ _ rfl LB.out (S2.out _ HO4.out.below) O2.out N2.out (k + 1 + (N - k)) rfl (by omega) (AA ++ fenc (FCell.mk f.name a f.b.length c f.safe) ++ BB) rfl ?_
      intro a5 c5 w5 h1 h2
      have HO5 : Hid (OwnB 79 3 U w5 (.slice a5 (k + 1 + (N - k)) c5) (k + 1 + (N - k)) (AA ++ fenc (FCell.mk f.name a f.b.length c f.safe) ++ BB)) := h1
      clear h1 h2 HO4
      refine hK.out _ _ ?_ (fun hHeld2 => ?_)
      · exact HO5.out.below
      clear hK K hHeld
      have hHeld := hHeld2
      clear hHeld2
      change wpTill _ _ _ _ _ _ _ _ (Act.put _ (some 45) _) _
      simp only [Act.put, List.setIfInBounds_toArray, List.set_cons_zero, List.set_cons_succ]
      refine till_take (i := 19) (v := ?_) 20 (by kernel_rfl) (Or.inr (by kernel_rfl)) (by kernel_rfl) rfl (by kernel_rfl) (by kernel_rfl) (by kernel_rfl) (fun _ _ _ h => h) (Or.inl ⟨by rfl, ?_⟩) hHeld ?_
      rotate_left
      · intro u hSu
        (go_simp) <;> (with_reducible rfl)
      change wpTill _ _ _ _ _ _ _ _ (Act.put _ (some 46) _) _
      simp only [Act.put, List.setIfInBounds_toArray, List.set_cons_zero, List.set_cons_succ]
      refine till_take (i := 20) (v := ?_) 20 (by kernel_rfl) (Or.inl rfl) (by kernel_rfl) rfl (by kernel_rfl) (by kernel_rfl) (by kernel_rfl) (fun _ _ _ h => h) (Or.inl ⟨by rfl, ?_⟩) hHeld ?_
      rotate_left
      · intro u hSu
        (go_simp) <;> (with_reducible rfl)
      change wpTill _ _ _ _ _ _ _ _ (Act.put _ (some 47) _) _
      simp only [Act.put, List.setIfInBounds_toArray, List.set_cons_zero, List.set_cons_succ]
      refine till_last (by kernel_rfl) (by kernel_rfl) rfl (fun K hK => ?_)
      obtain ⟨q1, q2, q3, q4, q5⟩ := HKU.out w5 HO5.out.below
      go_simp
      refine hK.out _ _ ?_
      refine NoPanic.normal ?_
      clear hK K hHeld q1 q2 q3 q4 q5
      go_wp2
      go_end0
      exact ⟨rfl, HEND.out w5 a5 c5 HO5.out⟩
end Go.Proofs.Ytlfmhdljldbjmaa
