/-
  What the document's own disks (hourglassref8: Crash of a Disk) leave.
-/
import Derived.Test.YtlfmhdljldbjmaaRefDisk7
import Derived.Test.YtlfmhdljldbjmaaRefFrame
import Derived.Laws.BitsAllLaws
namespace Go.Proofs.Ytlfmhdljldbjmaa
open Go.RowKit
set_option linter.unusedVariables false

/-- The first i files behind a crash, the others as they were. -/
def mixN (k : Nat) (t : Int) (fs : List FileV) (i : Nat) : List FileV := (fs.take i).map (crashF k t) ++ fs.drop i
theorem mix_zero (k : Nat) (t : Int) (fs : List FileV) : mixN k t fs 0 = fs := by simp [mixN]
theorem mix_all (k : Nat) (t : Int) (fs : List FileV) : mixN k t fs fs.length = fs.map (crashF k t) := by simp [mixN]
theorem mix_len (k : Nat) (t : Int) (fs : List FileV) (i : Nat) (h : i ≤ fs.length) : (mixN k t fs i).length = fs.length := by simp [mixN]; omega
theorem mix_at (k : Nat) (t : Int) (fs : List FileV) (i : Nat) (f : FileV) (h : fs[i]? = some f) : (mixN k t fs i)[i]? = some f := by
  have hl := (List.getElem?_eq_some_iff.1 h).1
  have e : ((fs.take i).map (crashF k t)).length = i := by simp; omega
  unfold mixN
  rw [List.getElem?_append_right (by omega), e, Nat.sub_self, List.getElem?_drop, Nat.add_zero]; exact h
theorem mix_next (k : Nat) (t : Int) (fs : List FileV) (i : Nat) (f : FileV) (h : fs[i]? = some f) : mixN k t fs (i + 1) = setF (mixN k t fs i) i (crashF k t f) := by
  have hl := (List.getElem?_eq_some_iff.1 h).1
  have e : ((fs.take i).map (crashF k t)).length = i := by simp; omega
  unfold mixN setF
  rw [List.set_append_right (h := by omega), e, Nat.sub_self, List.take_add_one, h]
  have hd : fs.drop i = f :: fs.drop (i + 1) := by
    rw [List.drop_eq_getElem_cons hl]
    rw [List.getElem?_eq_getElem hl] at h
    injection h with h
    rw [h]
  rw [hd]
  simp
theorem xor_u8 (x y : Int) (hx : 0 ≤ x ∧ x ≤ 255) (hy : 0 ≤ y ∧ y ≤ 255) : bits BinOp.xor IntKind.u8 x y = xorB x y := u8_xor x y hx.1 (by omega) hy.1 (by omega)
theorem xorB_byte (x y : Int) (hx : 0 ≤ x ∧ x ≤ 255) (hy : 0 ≤ y ∧ y ≤ 255) : 0 ≤ xorB x y ∧ xorB x y ≤ 255 := by
  have h : x.toNat ^^^ y.toNat < 2 ^ 8 := Nat.xor_lt_two_pow (by omega) (by omega)
  unfold xorB
  omega
theorem DiskR.nowoff {u : World} {b : Nat} {S : DS} {X : Foot} (h : DiskR u b S X) (v : Bool) : DiskR (u.setCell ⟨b, 2, none⟩ (.bool v)) b { S with off := v } X := by
  have hne : ∀ k, X k → k ≠ b → (u.setCell ⟨b, 2, none⟩ (.bool v)).heap[k]? = u.heap[k]? := fun k _ hk => Below.heap_setCell _ ⟨b, 2, none⟩ _ k hk
  have oth : ∀ j, j ≠ 2 → (u.setCell ⟨b, 2, none⟩ (.bool v)).cell? ⟨b, j, none⟩ = u.cell? ⟨b, j, none⟩ := fun j h2 => World.cell?_setCell_other _ _ _ _ (by intro e; injection e with _ e2; omega)
  refine ⟨h.own, fun k hk => by rw [World.size_setCell]; exact h.lt k hk, (oth 0 (by omega)).trans h.c0, World.cell?_setCell_same _ _ _ h.c2, (oth 3 (by omega)).trans h.c3, fun j => by rw [World.frozen?_setCell]; exact h.free j, ?_, ⟨h.good.safe, h.good.bytes, h.good.names⟩, h.few⟩
  refine h.list.imp (fun ⟨x, y⟩ => ⟨(oth 1 (by omega)).trans x, y⟩) ?_
  rintro ⟨g, cap, x1, x2, x3, x4, x5, x6⟩
  refine ⟨g, cap, (oth 1 (by omega)).trans x1, x2, x3, x4, fun j => by rw [World.frozen?_setCell]; exact x5 j, fun i f hf => ?_⟩
  obtain ⟨y0, ⟨a, c, z1, z2⟩, y2⟩ := x6 i f hf
  have hg := hne g x3 x4
  exact ⟨(cell_kept hg _).trans y0, ⟨a, c, (cell_kept hg _).trans z1, z2.kept (fun k x1 _ x3 => hne k x1 x3) (fun _ x => x)⟩, (cell_kept hg _).trans y2⟩
/-- A file that lost its end. -/
theorem DiskR.crashed {wr w6 : World} {b g i m : Nat} {S : DS} {X : Foot} {f : FileV} {cap : Nat} {zs : List Int} {a : Option Addr} {c : Nat} (h : DiskR wr b S X) (c1 : wr.cell? ⟨b, 1, none⟩ = some (.slice (some ⟨g, 0, none⟩) S.fs.length cap)) (hgb : g ≠ b) (hXg : X g) (hcap : S.fs.length ≤ cap) (hfree : ∀ j, wr.frozen? ⟨g, j, none⟩ = false)
    (hall : ∀ j x, S.fs[j]? = some x → FileR wr b g (j * 3) x X) (hif : S.fs[i]? = some f) (hb6 : Below wr.heap.size wr w6) (hm : zs.length = m) (hz : By zs) (ho6 : w6.ownsRow wr.heap.size 5 1 (.slice a m c) m (bs zs)) :
    DiskR ((w6.setCell ⟨g, i * 3 + 1, none⟩ (.slice a m c)).setCell ⟨g, i * 3 + 2, none⟩ (.int .i64 (m : Int))) b { S with fs := setF S.fs i ⟨f.name, zs, m⟩ } (fun k => X k ∨ wr.heap.size ≤ k ∧ k < w6.heap.size) ∧
    Did wr ((w6.setCell ⟨g, i * 3 + 1, none⟩ (.slice a m c)).setCell ⟨g, i * 3 + 2, none⟩ (.int .i64 (m : Int))) X (fun k => X k ∨ wr.heap.size ≤ k ∧ k < w6.heap.size) := by
  have hgl : g < wr.heap.size := h.lt g hXg
  have hbl : b < wr.heap.size := h.lt b h.own
  have hs6 : ((w6.setCell ⟨g, i * 3 + 1, none⟩ (.slice a m c)).setCell ⟨g, i * 3 + 2, none⟩ (.int .i64 (m : Int))).heap.size = w6.heap.size := by rw [World.size_setCell, World.size_setCell]
  have hX' : ∀ k, (X k ∨ wr.heap.size ≤ k ∧ k < w6.heap.size) → k < ((w6.setCell ⟨g, i * 3 + 1, none⟩ (.slice a m c)).setCell ⟨g, i * 3 + 2, none⟩ (.int .i64 (m : Int))).heap.size := fun k hk => by
    rw [hs6]
    exact hk.elim (fun x => Nat.lt_of_lt_of_le (h.lt k x) hb6.size) (fun x => x.2)
  have hf1 := (((hall i f hif).kept hXg (fun k x => hb6.block k (h.lt k x))).anew hgl hbl hm hz ho6).nowsafe m
  refine ⟨h.turn (f' := ⟨f.name, zs, m⟩) c1 hgb hXg hcap hall hif (fun k x => .inl x) hX' (fun k x hk => ?_) (fun j o hj ho => ?_) (fun j => ?_) hf1 (by show m ≤ zs.length; omega) hz (h.good.names f (List.mem_of_getElem? hif)), ?_, fun k hk => ⟨hk.imp id (fun x => x.1), hX' k hk⟩⟩
  · rw [Below.heap_setCell _ ⟨g, i * 3 + 2, none⟩ _ k hk, Below.heap_setCell _ ⟨g, i * 3 + 1, none⟩ _ k hk]; exact hb6.block k (h.lt k x)
  · rw [World.cell?_setCell_other _ _ _ _ (by intro e; injection e with _ e2; omega), World.cell?_setCell_other _ _ _ _ (by intro e; injection e with _ e2; omega)]; exact hb6.cell (p := ⟨g, j * 3 + o, none⟩) hgl
  · rw [World.frozen?_setCell, World.frozen?_setCell]; exact (hb6.frozen (p := ⟨g, j, none⟩) hgl).trans (hfree j)
  · exact (Chg.of_below hb6 X).trans ((Chg.set w6 ⟨g, i * 3 + 1, none⟩ _ hXg).trans (Chg.set _ ⟨g, i * 3 + 2, none⟩ _ hXg) (fun _ _ x => x)) (fun _ _ x => x)
end Go.Proofs.Ytlfmhdljldbjmaa
