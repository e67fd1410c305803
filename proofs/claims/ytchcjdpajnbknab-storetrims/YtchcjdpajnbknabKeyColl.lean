/-
  What the library's slices.AppendSeq, Collect and SortedFunc answer at the keys of a map.
-/
import Derived.Test.YtchcjdpajnbknabKeyIter
namespace Go.Proofs.Ytchcjdpajnbknab
open Go.RowKit
set_option linter.unusedVariables false

theorem info_keyz : (Try.prog.info? 26).map (fun i => (i.zero, i.size, i.bytes)) = some (some (kv zeroK), 16, 16) := by kernel_rfl
/-- A list of keys in a variable. -/
def Holding (w : World) (pre : List KyT) (W : World) : Prop := (∃ v, Boxed W w.heap.size 47 v ∧ W.ownsRow w.heap.size 26 16 v pre.length ((pre.map Subtype.val).flatMap kc) ∧ True) ∧ Below w.heap.size w W
theorem Holding.own (w : World) (B : Nat) (hB : w.heap.size ≤ B) : OwnFrom B (Holding w) :=
  OwnFrom.and (Own.from (holdsRow_own w.heap.size w.heap.size 47 26 16 (fun pre : List KyT => pre.length) (fun pre => (pre.map Subtype.val).flatMap kc) (fun _ _ => True)) _) (ownFrom_below (Nat.le_refl _) hB)
/-- A round's own variable. -/
def AxK (w : World) (Bm : Nat) (x : KyT) (a' : Act) (W : World) : Prop := ∃ Bx, KeyAt W Bx 0 x.1 ∧ a' = { tmps := #[.slice none 0 0, .func (.func 40) #[] #[.pointer (some ⟨Bm, 0, none⟩)], .pointer (some ⟨w.heap.size, 0, none⟩), undef, .slice none 0 0, .pointer (some ⟨Bx, 0, none⟩), .func (.func 40) #[] #[.pointer (some ⟨Bm, 0, none⟩)], kv x.1, undef, undef, undef, undef, undef], defers := [] }
theorem AxK.own (w : World) (Bm B : Nat) (x : KyT) (a' : Act) : OwnFrom B (fun (_ : Unit) W => AxK w Bm x a' W) := by
  rintro _ A C row ⟨Bx, hk, e⟩ hg hr
  exact ⟨Bx, ⟨fun i hi => _root_.Go.cell_kept (hk.cell i hi) hg (fun r e => (hr r e).2)⟩, e⟩
theorem cells_new (W : World) (T : TypeId) (k : List Int) : ∀ j u, (kc k)[j]? = some u → (W.alloc (.cells (k.map (Value.int .u8)).toArray T)).cell? ((⟨W.heap.size, 0, none⟩ : Addr).add j) = some u := by
  intro j u hj
  rw [addr_add, Nat.zero_add, World.cell?_alloc_new]
  unfold kc at hj
  simpa using hj
set_option maxRecDepth 100000 in
set_option maxHeartbeats 2000000 in
theorem appseq_in (n : Nat) (hn : 2 ≤ n) (Bm m c : Nat) (l : List (List Int)) (w : World) (hBm : Bm < w.heap.size) (hm : w.cell? ⟨Bm, 0, none⟩ = some (.map (some m))) (hset : KSet w m c l) (hc : c ≤ 1000000) :
    CallsIn Fence.wide n Try.prog 48 #[.slice none 0 0, .func (.func 40) #[] #[.pointer (some ⟨Bm, 0, none⟩)]] w fun e w' => ∃ v ss, e = .returned v ∧ Gives l c ss ∧ w'.ownsRow w.heap.size 26 16 v ss.length ((ss.map Subtype.val).flatMap kc) ∧ Below w.heap.size w w' := by
  have h1 : 1 ≤ n := by omega
  obtain ⟨i0, hi, hz0, hz1, hz2⟩ := info_parts info_keyz
  refine callsIn_of_wp_marks Try.func48 rfl trivial ?_ rfl
  simp only [Try.ntmps48, List.size_toArray, List.length_cons, List.length_nil, Nat.reduceAdd, Nat.reduceSub, Array.replicate_succ, Array.replicate_zero, List.push_toArray, List.append_toArray, List.nil_append, List.cons_append]
  gi_wp2
  have bS := Boxed.new w 47 (.slice none 0 0)
  have hB0 : Below w.heap.size w (w.alloc (.cells #[.slice none 0 0] 47)) := (Below.refl _ w).alloc (Nat.le_refl _) _
  refine wpIn_rangeFunc_ownH rfl h1 (gf := 40) (lb := #[.pointer (some ⟨Bm, 0, none⟩)]) rfl trivial (enters_of Try.func40 (by kernel_rfl) rfl)
    (iter_stops (n - 1) (by omega) Bm m c l _ (by simp; omega) ((hB0.cell (p := ⟨Bm, 0, none⟩) hBm).trans hm) (hset.past hB0)) walksK_t walksK_b (Below.refl _ _) (fun _ => rfl)
    (Holding w) (fun _ _ _ => False) (Holding.own w _ (by simp)) (fun _ _ _ _ _ hs _ _ => hs)
    ⟨⟨_, bS, World.ownsRow_nil _ _ _ _, trivial⟩, hB0⟩ (AxK w Bm) (AxK.own w Bm _) ?assign ?body ?done ?stop
  case assign =>
    rintro lp pre x W K hi' hK
    have hmine := KeyMine.made W 26 zeroK zeroK_ky
    obtain ⟨hk1, hb1, hz1⟩ := laid_key W 26 x.2
    rw [zero_cells] at hmine hk1 hb1 hz1
    have hg1 := grown_none hb1
    gi_wp2_with (first | (refine wpListIn_store_key rfl _ _ rfl W.heap.size 0 zeroK x.1 rfl rfl x.2 hmine ?_; intro u hu; subst hu) | (rw [Oper.semAt_eq _ _ _ (fun c h => by cases h)]; go_simp; try go_bits))
    exact hK _ _ (KeepsFrom.of_grownBy hg1 (fun j e => by cases e)) (KeepsWalks.of_grownBy hg1 (fun r o e => by cases e)) (Holding.own w w.heap.size (Nat.le_refl _) pre W _ none hi' hg1 (fun r e => by cases e)) ⟨W.heap.size, hk1.lies, rfl⟩
  case body =>
    rintro lp pre x a' W hl ⟨r, hr⟩ ⟨⟨v, hv, hrow, _⟩, hB⟩ ⟨Bx, hkx, rfl⟩ hlt
    have hcl := hv.cell
    have hfold := fold_key x.1 x.2
    have hxl := x.2.len
    gi_wp2_with (first | (refine wpListIn_load_key rfl _ rfl Bx 0 rfl x.1 x.2 hkx ?_) | (gi_at_builtin; refine wpListIn_append_own _ rfl _ _ 47 rfl w.heap.size 26 i0 (kv zeroK) 16 16 Try.underlying47 hi hz0 hz1 hz2 rfl (by decide) _ _ _ rfl (hrow.alloc _) ⟨W.heap.size, 0, none⟩ 1 1 (kc x.1) rfl (by rw [kc_len x.2]) (cells_new W 26 x.1) (ints_oneCell _ _) (by unfold maxLen; omega) (by omega) (by have := hB.size; simp; omega) ?_; intro v' w1 hown' hgrow _; obtain ⟨g', cap', rfl⟩ := ownsRow_succ hown'; obtain ⟨hv1, hv2, hr2, hk2, hb2⟩ := hv.appended (by decide) hrow hB.size (Nat.le_refl _) hown' hgrow; have hc1 := hv1.cell; have hf1 := hv1.frozen) | (rw [Oper.semAt_eq _ _ _ (fun c h => by cases h)]; go_simp; try go_bits))
    refine ⟨hk2.from _, ⟨hk2.size, fun k o hk ho => hk2.same k o hk (Obj.not_cells_of_walk ho)⟩, ⟨_, hv2, ?_, trivial⟩, hB.trans hb2⟩
    simpa using hr2
  case done =>
    rintro D ys W hD hS ⟨⟨v, hv, hrow, _⟩, hB⟩ hK
    have hcl := hv.cell
    gi_wp2
    refine ⟨by simp, .inl ⟨_, _, rfl, run_takeDeferred hK, ?_⟩⟩
    exact ⟨_, results_tmp rfl _ _ _, v, ys, rfl, hS, ownsRow_putObj hrow _ hK rfl, hB.trans (belowK_b (w := w) (Nat.le_refl _) W D _ _ (by simp at hD; omega) hK rfl rfl)⟩
  case stop =>
    rintro D c pre W _ _ h _
    exact h.elim
end Go.Proofs.Ytchcjdpajnbknab
