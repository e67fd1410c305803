/-
  The landed coord: Open.
-/
import Derived.Test.YtcppihpehipelaaAu47
namespace Go.Proofs.Ytcppihpehipelaa
open Go.RowKit
set_option linter.unusedVariables false
set_option linter.unusedSimpArgs false

theorem owns_keptC {u u' : World} {base e size n : Nat} {v : Value} {xs : List Value} (h : u.ownsRow base e size v n xs) (hk : ∀ q, v.ownBlock = some q → u'.heap[q]? = u.heap[q]?) : u'.ownsRow base e size v n xs := by
  refine ⟨h.1, h.2.imp id ?_⟩
  rintro ⟨g, cap, cur, rfl, h1, h2, h3⟩
  exact ⟨g, cap, cur, rfl, h1, (hk g rfl).trans h2, h3⟩
/-- The range over all of them under way: r the iterator's block, L what was found. -/
structure OpG (w wr : World) (m r : Nat) (C : List DecC) (G : Int → Option Nat) (left : Int → Bool) (cnt : Nat) (v : Value) (n : Nat) (L : List Int) : Prop where
  rg : PRangeI wr m r C.length G left cnt
  own : wr.ownsRow (r + 1) 2 1 v n (L.map (Value.int .i64))
  len : L.length = n
  few : n + cnt ≤ 1000000
  below : Below w.heap.size w wr
  size : r + 1 ≤ wr.heap.size
  rw' : r = w.heap.size
  nd : L.Nodup
  mem : ∀ x, x ∈ L ↔ ∃ d ∈ C, d.id = x ∧ 0 < (owesD d).length ∧ left x = false
theorem OpG.start {w w0 : World} {m b : Nat} {C : List DecC} {X : Foot} {G : Int → Option Nat} {Y : Int → Foot} (h : CoI w b C X m G Y) (hr : PRangeI w0 m w.heap.size C.length G (fun x => (G x).isSome) C.length) (hb : Below w.heap.size w w0) (hs : w0.heap.size = w.heap.size + 1) (hf : C.length ≤ 100000) : OpG w w0 m w.heap.size C G (fun x => (G x).isSome) C.length (.slice none 0 0) 0 [] := by
  refine ⟨hr, World.ownsRow_nil _ _ _ _, rfl, by omega, hb, by omega, rfl, List.nodup_nil, fun x => ⟨fun e => by simp at e, fun ⟨d, hd, e, _, e2⟩ => ?_⟩⟩
  obtain ⟨g, e3, _⟩ := h.each d hd
  rw [e] at e3
  rw [e3] at e2
  cases e2
/-- The next one is drawn: nobody owes. -/
theorem OpG.pass {w wr w1 : World} {m r cnt cnt1 n : Nat} {C : List DecC} {G : Int → Option Nat} {left : Int → Bool} {v : Value} {L : List Int} {x : Int} {d : DecC} (h : OpG w wr m r C G left cnt v n L) (hT : TblC C) (hd : d ∈ C) (hx : d.id = x) (ho : ¬ 0 < (owesD d).length)
    (h1 : PRangeI w1 m r C.length G (fun z => left z && !decide (z = x)) cnt1) (hlt : cnt1 < cnt) (hc : Chg wr w1 (fun k => k = r)) (hs : w1.heap.size = wr.heap.size) : OpG w w1 m r C G (fun z => left z && !decide (z = x)) cnt1 v n L := by
  refine ⟨h1, owns_keptC h.own (fun q e => hc.block q (h.own.lt q e).2 (by have := (h.own.lt q e).1; omega)), h.len, by have := h.few; omega, h.below.trans (hc.below (by have := h.below.size; omega) (fun k e => by have := h.rw'; omega)), by rw [hs]; exact h.size, h.rw', h.nd, fun z => (h.mem z).trans ?_⟩
  constructor
  · rintro ⟨d', hd', e1, e2, e3⟩
    exact ⟨d', hd', e1, e2, by rw [e3]; rfl⟩
  · rintro ⟨d', hd', e1, e2, e3⟩
    refine ⟨d', hd', e1, e2, ?_⟩
    by_cases ez : z = x
    · exfalso
      have : d' = d := by
        have q1 := (getC_iff hT.sorted).2 ⟨hd', e1.trans ez⟩
        have q2 := (getC_iff hT.sorted).2 ⟨hd, hx⟩
        rw [q1] at q2
        exact Option.some.inj q2
      rw [this] at e2
      exact ho e2
    · simp [ez] at e3
      exact e3
/-- The next one is drawn, and laid behind. -/
theorem OpG.take {w wr w1 w6 : World} {m r cnt cnt1 n : Nat} {C : List DecC} {G : Int → Option Nat} {left : Int → Bool} {v v6 : Value} {L : List Int} {x : Int} {d : DecC} (h : OpG w wr m r C G left cnt v n L) (hT : TblC C) (hd : d ∈ C) (hx : d.id = x) (ho : 0 < (owesD d).length) (hlx : left x = true)
    (h1 : PRangeI w1 m r C.length G (fun z => left z && !decide (z = x)) cnt1) (hlt : cnt1 < cnt) (hc : Chg wr w1 (fun k => k = r)) (hs : w1.heap.size = wr.heap.size) (hmw : m < w.heap.size) {u : World} (hb : Below w1.heap.size w1 u) (hg : u.grownBy w6 v.ownBlock) (h6 : w6.ownsRow (r + 1) 2 1 v6 (n + 1) (L.map (Value.int .i64) ++ [.int .i64 x])) : OpG w w6 m r C G (fun z => left z && !decide (z = x)) cnt1 v6 (n + 1) (L ++ [x]) := by
  have hsz := h.size
  have hblk : ∀ k, k < w1.heap.size → (∀ q, v.ownBlock = some q → k ≠ q) → w6.heap[k]? = w1.heap[k]? := fun k hk hne => (hg.block k (by have := hb.size; omega) (fun e => hne k e.symm rfl)).trans (hb.block k hk)
  have hvo : ∀ q, v.ownBlock = some q → r + 1 ≤ q := fun q e => (h.own.lt q e).1
  have hmr := h.rw'
  refine ⟨h1.kept (hblk m (by have := h.below.size; omega) (fun q e => by have := hvo q e; omega)) (hblk r (by omega) (fun q e => by have := hvo q e; omega)), by rw [List.map_append]; exact h6, by rw [List.length_append, h.len]; rfl, by have := h.few; omega, ?_, by have := hb.size; have := hg.size; omega, h.rw', ?_, fun z => ?_⟩
  · have b1 := h.below.trans (hc.below (by have := h.below.size; omega) (fun k e => by omega))
    have b2 := b1.trans (hb.mono b1.size)
    exact b2.grown hg b2.size (fun k e => by have := hvo k e; omega)
  · refine List.nodup_append.2 ⟨h.nd, by simp, fun a ha b hb' e => ?_⟩
    simp at hb'
    subst hb'
    subst e
    obtain ⟨d', _, _, _, e3⟩ := (h.mem _).1 ha
    rw [hlx] at e3
    cases e3
  · rw [List.mem_append, h.mem z, List.mem_singleton]
    constructor
    · rintro (⟨d', hd', e1, e2, e3⟩ | e)
      · exact ⟨d', hd', e1, e2, by rw [e3]; rfl⟩
      · subst e
        exact ⟨d, hd, hx, ho, by simp⟩
    · rintro ⟨d', hd', e1, e2, e3⟩
      by_cases ez : z = x
      · exact .inr ez
      · simp [ez] at e3
        exact .inl ⟨d', hd', e1, e2, e3⟩
/-- All have been drawn. -/
theorem OpG.done {w wr : World} {m r cnt n : Nat} {C : List DecC} {G : Int → Option Nat} {left : Int → Bool} {v : Value} {L : List Int} (h : OpG w wr m r C G left cnt v n L) (hT : TblC C) (hl : ∀ x, I64 x → left x = false) : (L.mergeSort fun x y => decide (x ≤ y)) = openC C := by
  refine sortedC_is h.nd (openC_up hT) (fun x => (h.mem x).trans ?_)
  rw [openC_owes hT, List.mem_map]
  constructor
  · rintro ⟨d, hd, e1, e2, _⟩
    exact ⟨d, List.mem_filter.2 ⟨hd, decide_eq_true e2⟩, e1⟩
  · rintro ⟨d, hd, e⟩
    obtain ⟨h1, h2⟩ := List.mem_filter.1 hd
    exact ⟨d, h1, e, of_decide_eq_true h2, hl x (e ▸ hT.i64 h1)⟩
/-- Those that are not over. -/
structure OpenC (C : List DecC) (e : Ending) (w' : World) : Prop where
  out : ∃ a n c, e = .returned (.slice a n c) ∧ (openC C).length = n ∧ n ≤ c ∧ NumsD w' a (openC C)
set_option maxHeartbeats 4000000 in
set_option maxRecDepth 4000 in
theorem cdopen_any (b : Nat) (C : List DecC) (X : Foot) (w : World) (h : CoD w b C X) (hf : C.length ≤ 100000) :
    Calls Try.prog 18 #[.pointer (some ⟨b, 0, none⟩)] w fun e w' => OpenC C e w' ∧ Below w.heap.size w w' := by
  obtain ⟨m, G, Y, h⟩ := h
  have c0 := h.c0
  obtain ⟨N, hN⟩ : ∃ N, N = C.length := ⟨_, rfl⟩
  have HPM : Hid (PMapI w m N G) := by rw [hN]; exact h.map
  have HSTART : Hid (∀ w0, PRangeI w0 m w.heap.size N G (fun x => (G x).isSome) N → Below w.heap.size w w0 → w0.heap.size = w.heap.size + 1 → OpG w w0 m w.heap.size C G (fun x => (G x).isSome) N (.slice none 0 0) 0 []) := fun w0 k1 k2 k3 => by rw [hN] at k1 ⊢; exact OpG.start h k1 k2 k3 hf
  have HT : Hid (TblC C) := h.tbl
  have HNN : Hid (N = C.length) := hN
  have HMW : Hid (m < w.heap.size) := h.lt m h.xm
  have HAT : Hid (∀ x g, I64 x → G x = some g → ∃ d, d ∈ C ∧ d.id = x ∧ ∃ (go co : Nat), ∀ u, Below w.heap.size w u → u.cell? ⟨g, 4, none⟩ = some (.slice (some ⟨go, 0, none⟩) (owesD d).length co)) := fun x g hx hg => by
    rcases h.at_id hx with ⟨_, h2⟩ | ⟨i, d, g', h1, h2, h3, h4, h5, h6⟩
    · rw [h2] at hg; cases hg
    · rw [hg] at h5
      injection h5 with h5
      subst h5
      obtain ⟨⟨gp, cp, aa, ac, go, co, k1, k2⟩, k3⟩ := h6
      exact ⟨d, h4, h3, go, co, fun u hu => (k1.box.past hu).c4⟩
  clear h hN
  go_enter Try.func18, Try.ntmps18
  go_wp2_with (first | (at_range; refine wpList_range_ptrI rfl _ _ rfl 73 Try.underlying68 m N G rfl HPM.out ?_; intro w0 hr0 hb0 hs0; have HG : Hid (OpG w w0 m w.heap.size C G (fun x => (G x).isSome) N (.slice none 0 0) 0 []) := HSTART.out w0 hr0 hb0 hs0; clear hr0 hb0 hs0) | go_in)
  (try go_frame)
  obtain ⟨r, hr⟩ : ∃ r, r = w.heap.size := ⟨_, rfl⟩
  have HR : Hid (r = w.heap.size) := hr
  rw [← hr] at HG ⊢
  clear hr HSTART
  go_loopw [3] (fun iv wr => ∃ (n : Nat) (a : Option Addr) (c : Nat), iv = .slice a n c ∧ Hid (∃ left cnt L, OpG w wr m r C G left cnt (.slice a n c) n L)) (fun _ wr => wr.rangeLeft m r)
  case atStart => exact ⟨0, none, 0, rfl, ⟨_, _, _, HG.out⟩⟩
  case round =>
    obtain ⟨n, a, c, rfl, HI⟩ := hrel
    obtain ⟨left, cnt, L, hg⟩ := HI.out
    have HGO : Hid (OpG w wr m r C G left cnt (.slice a n c) n L) := hg
    have HRG : Hid (PRangeI wr m r N G left cnt) := by rw [HNN.out]; exact hg.rg
    clear hg HI
    go_wp2_with (first | (at_next; refine wpList_next_ptrI rfl _ rfl m r N G left cnt rfl HRG.out ?_ ?_) | go_in)
    · intro hl0
      have HD : Hid ((L.mergeSort fun x y => decide (x ≤ y)) = openC C) := HGO.out.done HT.out hl0
      have CS : Hid (Calls Try.prog 48 #[.slice a n c] wr fun e w' => e = .returned (.tuple #[]) ∧ w'.ownsRow (r + 1) 2 1 (.slice a n c) n ((openC C).map (Value.int .i64)) ∧ Below w.heap.size w w') := by
        refine (cdsort_own (r + 1) _ n L wr HGO.out.len (by have := HGO.out.few; omega) HGO.out.own).mono ?_
        rintro e w' ⟨h1, h2, h3⟩
        rw [HD.out] at h2
        exact ⟨h1, h2, HGO.out.below.grown h3 HGO.out.below.size (fun k e => by have := (HGO.out.own.lt k e).1; have := HR.out; omega)⟩
      have HLN : Hid ((openC C).length = n) := by show _ = _; rw [← HD.out, List.length_mergeSort]; exact HGO.out.len
      clear hl0
      go_wp2_with (go_at_call 48; refine CS.out.mono ?_; rintro e w7 ⟨rfl, h2, h3⟩; have H2 : Hid (w7.ownsRow (r + 1) 2 1 (.slice a n c) n ((openC C).map (Value.int .i64)) ∧ Below w.heap.size w w7) := ⟨h2, h3⟩; clear h2 h3)
      go_ret
      obtain ⟨k1, k2⟩ := own_numsD H2.out.1 HLN.out
      exact ⟨⟨a, n, c, rfl, HLN.out, k2, k1⟩, H2.out.2⟩
    · intro x g w1 cnt1 hx hlx hgx hrg1 hlt hch1 hs1 hen
      obtain ⟨d, hd, hdx, go, co, hcell⟩ := HAT.out x g hx hgx
      have hb1 : Below w.heap.size w w1 := HGO.out.below.trans (hch1.below (by have := HGO.out.below.size; omega) (fun k e => by have := HR.out; omega))
      have y4 := hcell w1 hb1
      have HX : Hid (left x = true ∧ PRangeI w1 m r C.length G (fun z => left z && !decide (z = x)) cnt1 ∧ cnt1 < cnt ∧ Chg wr w1 (fun k => k = r) ∧ w1.heap.size = wr.heap.size ∧ d ∈ C ∧ d.id = x) := ⟨hlx, by rw [← HNN.out]; exact hrg1, hlt, hch1, hs1, hd, hdx⟩
      have HLE : Hid (wr.rangeLeft m r = cnt) := HGO.out.rg.left_eq
      obtain ⟨O, hO⟩ : ∃ O, O = (owesD d).length := ⟨_, rfl⟩
      rw [← hO] at y4
      have HO : Hid (O = (owesD d).length) := hO
      clear hO hcell hlx hrg1 hlt hch1 hs1 hd hdx hb1 hgx
      by_cases h0 : 0 < O
      · have d0 : decide ((0 : Int) < (O : Int)) = true := decide_eq_true (by omega)
        have d1 : decide (0 < O) = true := decide_eq_true h0
        have H0 : Hid (0 < (owesD d).length) := by show _ < _; rw [← HO.out]; exact h0
        clear h0
        go_wp2_with (first
          | (at_builtin
             refine wpList_append_els_at i64_elC (r + 1) (by have := HGO.out.size; have := HX.out.2.2.2.2.1; simp; omega) rfl _ _ rfl (.slice a n c) n (L.map (Value.int .i64)) [.int .i64 x] rfl ((owns_keptC (u' := w1) HGO.out.own (fun q e => HX.out.2.2.2.1.block q (HGO.out.own.lt q e).2 (by have := (HGO.out.own.lt q e).1; omega))).alloc _) _ 1 1 rfl rfl (lies_made _ _ _) (by intro u hu; simp at hu; rw [hu]; rfl) (by have := HGO.out.few; have := HX.out.2.2.1; omega) ?_
             intro a6 c6 w6 h61 h62 h63
             have H6 : Hid (OpG w w6 m r C G (fun z => left z && !decide (z = x)) cnt1 (.slice a6 (n + 1) c6) (n + 1) (L ++ [x])) := HGO.out.take HT.out HX.out.2.2.2.2.2.1 HX.out.2.2.2.2.2.2 H0.out HX.out.1 HX.out.2.1 HX.out.2.2.1 HX.out.2.2.2.1 HX.out.2.2.2.2.1 HMW.out ((Below.refl _ _).alloc (Nat.le_refl _) _) h62 h61
             clear h61 h62 h63))
        go_roundw
        case rel => exact ⟨n + 1, a6, c6, rfl, ⟨_, _, _, H6.out⟩⟩
        case measure => rw [H6.out.rg.left_eq, HLE.out]; exact HX.out.2.2.1
      · have d0 : decide ((0 : Int) < (O : Int)) = false := decide_eq_false (by omega)
        have d1 : decide (0 < O) = false := decide_eq_false h0
        have H1 : Hid (OpG w w1 m r C G (fun z => left z && !decide (z = x)) cnt1 (.slice a n c) n L) := HGO.out.pass HT.out HX.out.2.2.2.2.2.1 HX.out.2.2.2.2.2.2 (by rw [← HO.out]; exact h0) HX.out.2.1 HX.out.2.2.1 HX.out.2.2.2.1 HX.out.2.2.2.2.1
        clear h0
        go_wp2
        go_roundw
        case rel => exact ⟨n, a, c, rfl, ⟨_, _, _, H1.out⟩⟩
        case measure => rw [H1.out.rg.left_eq, HLE.out]; exact HX.out.2.2.1
end Go.Proofs.Ytcppihpehipelaa
