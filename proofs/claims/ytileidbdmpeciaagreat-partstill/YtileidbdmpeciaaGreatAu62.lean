/-
  What the library's slices.AppendSeq, Collect and SortedFunc answer at the keys of a map.
  What package key answers: Of.
  What package key answers: Sort; and with it all of the package's contracts.
-/
import Derived.Test.YtileidbdmpeciaaGreatAu74
import Derived.Test.YtileidbdmpeciaaGreatAu49
import Derived.Lib.LazyBuf
namespace Go.Proofs.YtileidbdmpeciaaGreat
open Go.RowKit
set_option linter.unusedVariables false

theorem info_keyz : (Tryz.prog.info? 38).map (fun i => (i.zero, i.size, i.bytes)) = some (some (kv zeroK), 16, 16) := by kernel_rfl
/-- A list of keys in a variable. -/
def Holding (w : World) (pre : List KyT) (W : World) : Prop := (∃ v, Boxed W w.heap.size 113 v ∧ W.ownsRow w.heap.size 38 16 v pre.length ((pre.map Subtype.val).flatMap kc) ∧ True) ∧ Below w.heap.size w W
theorem Holding.own (w : World) (B : Nat) (hB : w.heap.size ≤ B) : OwnFrom B (Holding w) :=
  OwnFrom.and (Own.from (holdsRow_own w.heap.size w.heap.size 113 38 16 (fun pre : List KyT => pre.length) (fun pre => (pre.map Subtype.val).flatMap kc) (fun _ _ => True)) _) (ownFrom_below (Nat.le_refl _) hB)
/-- A round's own variable. -/
def AxK (w : World) (Bm : Nat) (x : KyT) (a' : Act) (W : World) : Prop := ∃ Bx, KeyAt W Bx 0 x.1 ∧ a' = { tmps := #[.slice none 0 0, .func (.func 152) #[] #[.pointer (some ⟨Bm, 0, none⟩)], .pointer (some ⟨w.heap.size, 0, none⟩), undef, .slice none 0 0, .pointer (some ⟨Bx, 0, none⟩), .func (.func 152) #[] #[.pointer (some ⟨Bm, 0, none⟩)], kv x.1, undef, undef, undef, undef, undef], defers := [] }
theorem AxK.own (w : World) (Bm B : Nat) (x : KyT) (a' : Act) : OwnFrom B (fun (_ : Unit) W => AxK w Bm x a' W) := by
  rintro _ A C row ⟨Bx, hk, e⟩ hg hr
  exact ⟨Bx, ⟨fun i hi => _root_.Go.cell_kept (hk.cell i hi) hg (fun r e => (hr r e).2)⟩, e⟩
theorem cells_new (W : World) (T : TypeId) (k : List Int) : ∀ j u, (kc k)[j]? = some u → (W.alloc (.cells (k.map (Value.int .u8)).toArray T)).cell? ((⟨W.heap.size, 0, none⟩ : Addr).add j) = some u := by
  intro j u hj
  rw [addr_add, Nat.zero_add, World.cell?_alloc_new]
  unfold kc at hj
  simpa using hj
set_option maxRecDepth 100000 in
set_option maxHeartbeats 2000000 in
theorem appseq_in (n : Nat) (hn : 2 ≤ n) (Bm m c : Nat) (l : List (List Int)) (w : World) (hBm : Bm < w.heap.size) (hm : w.cell? ⟨Bm, 0, none⟩ = some (.map (some m))) (hset : KSet w m c l) (hc : c ≤ 1000000) :
    CallsIn Fence.wide n Tryz.prog 161 #[.slice none 0 0, .func (.func 152) #[] #[.pointer (some ⟨Bm, 0, none⟩)]] w fun e w' => ∃ v ss, e = .returned v ∧ Gives l c ss ∧ w'.ownsRow w.heap.size 38 16 v ss.length ((ss.map Subtype.val).flatMap kc) ∧ Below w.heap.size w w' := by
  have h1 : 1 ≤ n := by omega
  obtain ⟨i0, hi, hz0, hz1, hz2⟩ := info_parts info_keyz
  refine callsIn_of_wp_marks Tryz.func161 rfl trivial ?_ rfl
  simp only [Tryz.ntmps161, List.size_toArray, List.length_cons, List.length_nil, Nat.reduceAdd, Nat.reduceSub, Array.replicate_succ, Array.replicate_zero, List.push_toArray, List.append_toArray, List.nil_append, List.cons_append]
  gi_wp2
  have bS := Boxed.new w 113 (.slice none 0 0)
  have hB0 : Below w.heap.size w (w.alloc (.cells #[.slice none 0 0] 113)) := (Below.refl _ w).alloc (Nat.le_refl _) _
  refine wpIn_rangeFunc_ownH rfl h1 (gf := 152) (lb := #[.pointer (some ⟨Bm, 0, none⟩)]) rfl trivial (enters_of Tryz.func152 (by kernel_rfl) rfl)
    (iter_stops (n - 1) (by omega) Bm m c l _ (by simp; omega) ((hB0.cell (p := ⟨Bm, 0, none⟩) hBm).trans hm) (hset.past hB0)) walksK_t walksK_b (Below.refl _ _) (fun _ => rfl)
    (Holding w) (fun _ _ _ => False) (Holding.own w _ (by simp)) (fun _ _ _ _ _ hs _ _ => hs)
    ⟨⟨_, bS, World.ownsRow_nil _ _ _ _, trivial⟩, hB0⟩ (AxK w Bm) (AxK.own w Bm _) ?assign ?body ?done ?stop
  case assign =>
    rintro lp pre x W K hi' hK
    have hmine := KeyMine.made W 38 zeroK zeroK_ky
    obtain ⟨hk1, hb1, hz1⟩ := laid_key W 38 x.2
    rw [zero_cells] at hmine hk1 hb1 hz1
    have hg1 := grown_none hb1
    gi_wp2_with (first | (refine wpListIn_store_key rfl _ _ rfl W.heap.size 0 zeroK x.1 rfl rfl x.2 hmine ?_; intro u hu; subst hu) | (rw [Oper.semAt_eq _ _ _ (fun c h => by cases h)]; go_simp; try go_bits))
    exact hK _ _ (KeepsFrom.of_grownBy hg1 (fun j e => by cases e)) (KeepsWalks.of_grownBy hg1 (fun r o e => by cases e)) (Holding.own w w.heap.size (Nat.le_refl _) pre W _ none hi' hg1 (fun r e => by cases e)) ⟨W.heap.size, hk1.lies, rfl⟩
  case body =>
    rintro lp pre x a' W hl ⟨r, hr⟩ ⟨⟨v, hv, hrow, _⟩, hB⟩ ⟨Bx, hkx, rfl⟩ hlt
    have hcl := hv.cell
    have hfold := fold_key x.1 x.2
    have hxl := x.2.len
    gi_wp2_with (first | (refine wpListIn_load_key rfl _ rfl Bx 0 rfl x.1 x.2 hkx ?_) | (gi_at_builtin; refine wpListIn_append_own _ rfl _ _ 113 rfl w.heap.size 38 i0 (kv zeroK) 16 16 Tryz.underlying113 hi hz0 hz1 hz2 rfl (by decide) _ _ _ rfl (hrow.alloc _) ⟨W.heap.size, 0, none⟩ 1 1 (kc x.1) rfl (by rw [kc_len x.2]) (cells_new W 38 x.1) (ints_oneCell _ _) (by unfold maxLen; omega) (by omega) (by have := hB.size; simp; omega) ?_; intro v' w1 hown' hgrow _; obtain ⟨g', cap', rfl⟩ := ownsRow_succ hown'; obtain ⟨hv1, hv2, hr2, hk2, hb2⟩ := hv.appended (by decide) hrow hB.size (Nat.le_refl _) hown' hgrow; have hc1 := hv1.cell; have hf1 := hv1.frozen) | (rw [Oper.semAt_eq _ _ _ (fun c h => by cases h)]; go_simp; try go_bits))
    refine ⟨hk2.from _, ⟨hk2.size, fun k o hk ho => hk2.same k o hk (Obj.not_cells_of_walk ho)⟩, ⟨_, hv2, ?_, trivial⟩, hB.trans hb2⟩
    simpa using hr2
  case done =>
    rintro D ys W hD hS ⟨⟨v, hv, hrow, _⟩, hB⟩ hK
    have hcl := hv.cell
    gi_wp2
    refine ⟨by simp, .inl ⟨_, _, rfl, run_takeDeferred hK, ?_⟩⟩
    exact ⟨_, results_tmp rfl _ _ _, v, ys, rfl, hS, ownsRow_putObj hrow _ hK rfl, hB.trans (belowK_b (w := w) (Nat.le_refl _) W D _ _ (by simp at hD; omega) hK rfl rfl)⟩
  case stop =>
    rintro D c pre W _ _ h _
    exact h.elim
end Go.Proofs.YtileidbdmpeciaaGreat

namespace Go.Proofs.YtileidbdmpeciaaGreat
open Go.RowKit
set_option linter.unusedVariables false

/-- A text laid into a key of noughts. -/
theorem KeyMine.lay {w : World} {b : Nat} {s : List Int} (h : KeyMine w b 0 zeroK) (hs : s.length ≤ 16) (hb : ∀ z ∈ s, 0 ≤ z ∧ z ≤ 255) : KeyMine (w.setCells b 0 (s.map (Value.int .u8))) b 0 (keyK s) := by
  have ht : w.there b 0 (s.map (Value.int .u8)).length := fun j hj => h.there j (by rw [List.length_map] at hj; omega)
  have hr := World.rangeAt_setCells_same w b 0 (s.map (Value.int .u8)) ht
  refine ⟨⟨fun i hi => ?_⟩, fun i hi => by rw [World.frozen?_setCells]; exact h.free i hi, keyK_ky hs hb⟩
  by_cases e : i < s.length
  · refine hr i _ ?_
    simp [keyK, List.getD, e, List.getElem?_append]
  · rw [World.cell?_setCells_out b (s.map (Value.int .u8)) 0 w ⟨b, 0 + i, none⟩ (fun _ => by simp; omega), h.lies.cell i hi]
    have e2 : i - s.length < 16 - s.length := by omega
    have hz : zeroK.getD i 0 = 0 := by unfold zeroK; simp only [List.getD, List.getElem?_replicate, hi, if_true]; rfl
    rw [hz]
    unfold keyK
    simp only [List.getD, List.getElem?_append, e, if_false, List.getElem?_replicate, e2, if_true]
    rfl
/-- The text of a key, laid. -/
theorem OfR.lay {w u : World} (h : OfR w u zeroK) {s : List Int} (hs : s.length ≤ 16) (hb : ∀ z ∈ s, 0 ≤ z ∧ z ≤ 255) : OfR w (u.setCells (w.heap.size + 1) 0 (s.map (Value.int .u8))) (keyK s) :=
  ⟨below_cells (by omega) h.below, h.res.other (by omega), h.key.lay hs hb⟩
end Go.Proofs.YtileidbdmpeciaaGreat

namespace Go.Proofs.YtileidbdmpeciaaGreat
open Go.RowKit
set_option linter.unusedVariables false

theorem appseq_any (Bm m c : Nat) (l : List (List Int)) (w : World) (hBm : Bm < w.heap.size) (hm : w.cell? ⟨Bm, 0, none⟩ = some (.map (some m))) (hset : KSet w m c l) (hc : c ≤ 1000000) :
    Calls Tryz.prog 161 #[.slice none 0 0, .func (.func 152) #[] #[.pointer (some ⟨Bm, 0, none⟩)]] w fun e w' => ∃ v ss, e = .returned v ∧ Gives l c ss ∧ w'.ownsRow w.heap.size 38 16 v ss.length ((ss.map Subtype.val).flatMap kc) ∧ Below w.heap.size w w' :=
  callsIn_wide.1 (appseq_in 2 (Nat.le_refl _) Bm m c l w hBm hm hset hc)
theorem collect_any (Bm m c : Nat) (l : List (List Int)) (w : World) (hBm : Bm < w.heap.size) (hm : w.cell? ⟨Bm, 0, none⟩ = some (.map (some m))) (hset : KSet w m c l) (hc : c ≤ 1000000) :
    Calls Tryz.prog 150 #[.func (.func 152) #[] #[.pointer (some ⟨Bm, 0, none⟩)]] w fun e w' => ∃ v ss, e = .returned v ∧ Gives l c ss ∧ w'.ownsRow w.heap.size 38 16 v ss.length ((ss.map Subtype.val).flatMap kc) ∧ Below w.heap.size w w' := by
  have C1 := appseq_any Bm m c l w hBm hm hset hc
  clear hset hm
  go_enter Tryz.func150, Tryz.ntmps150
  go_wp2_with (go_at_call 161; refine C1.mono ?_; rintro e w' ⟨v, ss, rfl, hS, hrow, hb⟩)
  go_ret
  exact ⟨v, ss, rfl, hS, hrow, hb⟩
theorem sortn_any (cap : Nat) (fv : Value) (w : World) : Calls Tryz.prog 151 #[.slice none 0 cap, fv] w fun e w' => e = .returned (.tuple #[]) ∧ w' = w :=
  AnyF.slices_SortFunc_none Tryz.sortL none cap fv w
theorem sorted_is {l m ss : List (List Int)} (hn : ss.Nodup) (hmem : ∀ k, k ∈ ss ↔ k ∈ l) (hp : m.Perm ss) (hs : m.Pairwise fun x y => lexC x y ≤ 0) : m = sortK l := by
  refine rising_ext (rising_of hs (hp.nodup_iff.2 hn)) (sortK_facts l).1 fun y => ?_
  rw [hp.mem_iff, hmem, (sortK_facts l).2.1]
/-- A list of keys of the call's own is put in order. -/
theorem sortv_any (base : Nat) (w0 w : World) (v : Value) (ss : List (List Int)) (hk : Kys ss) (hN : ss.length ≤ 1000000) (hrow : w.ownsRow base 38 16 v ss.length (ss.flatMap kc)) (hb : Below base w0 w) (hb0 : base ≤ w.heap.size) :
    Calls Tryz.prog 151 #[v, .func (.func 121) #[] #[]] w fun e w' => e = .returned (.tuple #[]) ∧ ∃ m : List (List Int), m.Perm ss ∧ m.Pairwise (fun x y => lexC x y ≤ 0) ∧ w'.ownsRow base 38 16 v ss.length (m.flatMap kc) ∧ Below base w0 w' := by
  rcases hrow.2 with ⟨rfl, h0⟩ | ⟨g, cap, cur, rfl, hg, hh, h1, h2, h3, h4⟩
  · refine (sortn_any 0 _ w).mono ?_
    rintro e w' ⟨rfl, rfl⟩
    have hn : ss = [] := List.eq_nil_of_length_eq_zero h0
    subst hn
    exact ⟨rfl, [], List.Perm.refl _, List.Pairwise.nil, hrow, hb⟩
  · refine (sortf_any base g cap ss hk w cur hg hh h1 h2 h3 h4 hN).mono ?_
    rintro e w' ⟨rfl, m, hp, hs, ho, hgr⟩
    exact ⟨rfl, m, hp, hs, ho, hb.grown hgr hb0 (fun j e => by injection e with e; subst e; exact hg)⟩
theorem keys_of_own {w : World} {base : Nat} {v : Value} {n : Nat} {m : List (List Int)} (hk : Kys m) (hl : m.length = n) (h : w.ownsRow base 38 16 v n (m.flatMap kc)) : ∃ a cap, v = .slice a n cap ∧ KeysAt w a m ∧ n ≤ cap := by
  rcases h.2 with ⟨rfl, h0⟩ | ⟨g, cap, cur, rfl, hg, hh, h1, h2, h3, h4⟩
  · subst h0
    exact ⟨none, 0, rfl, ⟨lies_none _ _, hk, fun _ => List.eq_nil_of_length_eq_zero hl⟩, Nat.le_refl _⟩
  · exact ⟨_, cap, rfl, ⟨own_lies h, hk, fun h => by cases h⟩, h1⟩
set_option maxHeartbeats 1000000 in
theorem sortedf_any (Bm m c : Nat) (l : List (List Int)) (w : World) (hBm : Bm < w.heap.size) (hm : w.cell? ⟨Bm, 0, none⟩ = some (.map (some m))) (hset : KSet w m c l) (hc : c ≤ 1000000) (hkl : Kys l) :
    Calls Tryz.prog 119 #[.func (.func 152) #[] #[.pointer (some ⟨Bm, 0, none⟩)], .func (.func 121) #[] #[]] w fun e w' => (∃ a' cap', e = .returned (.slice a' (sortK l).length cap') ∧ KeysAt w' a' (sortK l) ∧ (sortK l).length ≤ cap') ∧ Below w.heap.size w w' := by
  have C1 : Hid (Calls Tryz.prog 150 #[.func (.func 152) #[] #[.pointer (some ⟨Bm, 0, none⟩)]] w fun e w' => ∃ v ss, e = .returned v ∧ Gives l c ss ∧ w'.ownsRow w.heap.size 38 16 v ss.length ((ss.map Subtype.val).flatMap kc) ∧ Below w.heap.size w w') := collect_any Bm m c l w hBm hm hset hc
  have HC : Hid (c ≤ 1000000) := hc
  have HKL : Hid (Kys l) := hkl
  clear hset hm hBm hc hkl
  obtain ⟨X, hX⟩ : ∃ X, X = sortK l := ⟨_, rfl⟩
  have HX : Hid (X = sortK l) := hX
  rw [← hX]
  clear hX
  go_enter Tryz.func119, Tryz.ntmps119
  go_wp2_with (go_at_call 150; refine C1.out.mono ?_; rintro e w1 ⟨v, ss, rfl, hS, hrow, hb⟩; have HS : Hid (Gives l c ss) := hS; have HB : Hid (Below w.heap.size w w1) := hb; have CS : Hid (Calls Tryz.prog 151 #[v, .func (.func 121) #[] #[]] w1 fun e w' => e = .returned (.tuple #[]) ∧ ∃ m : List (List Int), m.Perm (ss.map Subtype.val) ∧ m.Pairwise (fun x y => lexC x y ≤ 0) ∧ w'.ownsRow w.heap.size 38 16 v (ss.map Subtype.val).length (m.flatMap kc) ∧ Below w.heap.size w w') := sortv_any w.heap.size w w1 v (ss.map Subtype.val) (fun k hk => by obtain ⟨x, _, rfl⟩ := List.mem_map.1 hk; exact x.2) (by rw [List.length_map]; have := hS.2.2; have := HC.out; omega) (by rw [List.length_map]; exact hrow) hb hb.size; clear hS hb hrow C1)
  refine CS.out.mono ?_
  rintro e w2 ⟨rfl, m', hp, hs, ho, hb2⟩
  have hX2 := HX.out
  rw [← sorted_is HS.out.1 HS.out.2.1 hp hs] at hX2
  subst hX2
  obtain ⟨a', cap', rfl, hat, hle⟩ := keys_of_own (fun k hk => by obtain ⟨x, _, rfl⟩ := List.mem_map.1 (hp.mem_iff.1 hk); exact x.2) hp.length_eq ho
  have HF : Hid (Ending.returned (.slice a' (ss.map Subtype.val).length cap') = Ending.returned (.slice a' X.length cap') ∧ KeysAt w2 a' X ∧ X.length ≤ cap' ∧ Below w.heap.size w w2) := ⟨by rw [hp.length_eq], hat, by rw [hp.length_eq]; exact hle, hb2⟩
  clear hp hs ho hat hle hb2 CS HS HX
  generalize (ss.map Subtype.val).length = N at HF ⊢
  go_wp2
  go_ret
  exact ⟨⟨a', cap', HF.out.1, HF.out.2.1, HF.out.2.2.1⟩, HF.out.2.2.2⟩
/-- What Sort's rounds hold. -/
structure SetR (w u : World) (l : List (List Int)) (n : Nat) : Prop where
  below : Below w.heap.size w u
  set : ∃ c, KSet u w.heap.size c (l.take n) ∧ c ≤ n
theorem SetR.round {w u : World} {l : List (List Int)} {n : Nat} (h : SetR w u l n) {u2 : World} (hb : Below u.heap.size u u2) : SetR w u2 l n :=
  ⟨h.below.trans (hb.mono h.below.size), by obtain ⟨c, h1, h2⟩ := h.set; exact ⟨c, h1.past hb, h2⟩⟩
end Go.Proofs.YtileidbdmpeciaaGreat

