/-
  A table of points in memory; lists of lists of writes: such that the call makes itself, such that lie somewhere; lists of numbers.
-/
import Derived.Test.YtdbgkbgodnknnaaRoutePlain
import Derived.Test.YtdbgkbgodnknnaaKeyC1
import Derived.Test.YtdbgkbgodnknnaaKeysOpen
import Derived.Test.YtdbgkbgodnknnaaWrtBuild
import Derived.Test.YtdbgkbgodnknnaaAppAt
import Derived.Deep.OwnRows
namespace Go.Proofs.Ytdbgkbgodnknnaa
open Go.RowKit
set_option linter.unusedVariables false

theorem nums_elR : ElT 38 3 1 8 := ElT.mk' (z := .int .i64 0) Try.underlying38 (by kernel_rfl) (by kernel_rfl) (by decide) (by decide)
theorem wrt_elR : ElT 33 32 18 40 := ElT.mk' (z := wv zeroW) Try.underlying33 (by kernel_rfl) (by kernel_rfl) (by decide) (by decide)
theorem kc_oneR (k : List Int) : ∀ u ∈ kc k, u.oneCell' = true := fun u hu => by
  obtain ⟨z, _, rfl⟩ := List.mem_map.1 hu
  rfl
theorem laid_keyR (w : World) (T : TypeId) {k : List Int} (hk : Ky k) : KeyMine ((w.alloc (.cells (kcs zeroK) T)).setCells w.heap.size 0 (k.map (Value.int .u8))) w.heap.size 0 k ∧ Below w.heap.size w ((w.alloc (.cells (kcs zeroK) T)).setCells w.heap.size 0 (k.map (Value.int .u8))) ∧ ((w.alloc (.cells (kcs zeroK) T)).setCells w.heap.size 0 (k.map (Value.int .u8))).heap.size = w.heap.size + 1 :=
  ⟨(KeyMine.made w T zeroK zeroK_ky).store hk, below_cells (Nat.le_refl _) ((Below.refl _ _).alloc (Nat.le_refl _) _), by rw [size_cells]; simp⟩
/-- A table: where it lies, its points. -/
structure RtAt (w : World) (q : Nat) (P : List (List Int)) : Prop where
  lies : ∃ a c, w.cell? ⟨q, 0, none⟩ = some (.slice a P.length c) ∧ P.length ≤ c ∧ KeysAt w a P
theorem RtAt.past {w w' : World} {q : Nat} {P : List (List Int)} (h : RtAt w q P) (hb : Below w.heap.size w w') : RtAt w' q P := by
  obtain ⟨a, c, h1, h2, h3⟩ := h.lies
  exact ⟨a, c, (hb.cell (p := ⟨q, 0, none⟩) (lt_of_cell h1)).trans h1, h2, h3.past hb⟩
theorem RtAt.made {w : World} {a : Option Addr} {c : Nat} {P : List (List Int)} (h : KeysAt w a P) (hc : P.length ≤ c) (T : TypeId) : RtAt (w.alloc (.cells #[.slice a P.length c] T)) w.heap.size P := by
  refine ⟨a, c, ?_, hc, h.past ((Below.refl _ _).alloc (Nat.le_refl _) _)⟩
  rw [World.cell?_alloc_new]
  rfl
/-- Points at a place: all that a walk asks of a table. -/
theorem RtAt.open {w : World} {q N : Nat} {P : List (List Int)} (h : RtAt w q P) (hN : P.length = N) : ∃ a c, N ≤ c ∧ (∀ u, Below w.heap.size w u → u.cell? ⟨q, 0, none⟩ = some (.slice a N c)) ∧ Kys P ∧ ∀ i, i < N → ∃ b o, a = some ⟨b, o, none⟩ ∧ (∀ u, Below w.heap.size w u → KeyAt u b (o + i * 16) (P.getD i [])) ∧ Ky (P.getD i []) := by
  subst hN
  obtain ⟨a, c, h1, h2, h3⟩ := h.lies
  refine ⟨a, c, h2, fun u hb => (hb.cell (p := ⟨q, 0, none⟩) (lt_of_cell h1)).trans h1, h3.kys, fun i hi => ?_⟩
  obtain ⟨b, o, e, h4, h5⟩ := h3.key hi
  exact ⟨b, o, e, fun u hb => h4.past hb, h5⟩
theorem keys_of_own {w : World} {B n : Nat} {v : Value} {l : List (List Int)} (h : w.ownsRow B 28 16 v n (l.flatMap kc)) (hl : l.length = n) (hk : Kys l) : ∃ a c, v = .slice a n c ∧ n ≤ c ∧ KeysAt w a l := by
  rcases h.2 with ⟨rfl, h0⟩ | ⟨g, cap, cur, rfl, hg, hh, h1, h2, h3, h4⟩
  · subst h0
    have hn := List.eq_nil_of_length_eq_zero hl
    subst hn
    exact ⟨none, 0, rfl, Nat.le_refl _, lies_none _ _, hk, fun _ => rfl⟩
  · exact ⟨_, cap, rfl, h1, own_lies h, hk, fun e => by cases e⟩
theorem own_wrtsR {w : World} {B n : Nat} {v : Value} {l : List Wrt} (h : w.ownsRow B 32 18 v n (l.flatMap encW)) (hl : l.length = n) (hk : ∀ W ∈ l, WrtOk W) : ∃ a c, v = .slice a n c ∧ n ≤ c ∧ WrtsAt w a l := by
  rcases h.2 with ⟨rfl, h0⟩ | ⟨g, cap, cur, rfl, hg, hh, h1, h2, h3, h4⟩
  · subst h0
    exact ⟨none, 0, rfl, Nat.le_refl _, .inl (List.eq_nil_of_length_eq_zero hl), hk⟩
  · refine ⟨_, cap, rfl, h1, .inr ⟨g, 0, rfl, fun i W hW => ⟨?_⟩⟩, hk⟩
    exact (own_lies h).el (fun V hV => encW_len (hk V hV).key) hW
theorem step_build_ws1R {w : World} {ops : Array Oper} {o : Oper} {a : Act} {K : Act → World → Prop} {Q : Exit → Act → World → Prop} {E : Prop} (hgd : o.guard = none) (y : Operand) (ho : o.op = .buildSlice 33 1 #[(0, y)]) (W : Wrt) (hW : Ky W.k) (hx : a.eval y = wv W)
    (h : K (a.put o.dst (.slice (some ⟨w.heap.size, 0, none⟩) 1 1)) (w.alloc (.cells (encW W).toArray 32))) : if Region.wanted o (yielded ops a.tmps) = true then Oper.wp Try.prog o a w K Q else E := by
  have hw : Region.wanted o (yielded ops a.tmps) = true := by simp [Region.wanted, hgd]
  rw [if_pos hw]
  have hrun := run_build_ws1 w W hW
  unfold Oper.wp
  simp only [execOp, ho, List.map_toArray, List.map_cons, List.map_nil, hx, Sem.run_bind, hrun, Result.andThen]
  exact h
/-- A list of lists of writes, all of the call's own. -/
structure OwnL (w0 u : World) (g : Nat) (L : List (List Wrt)) : Prop where
  below : Below w0.heap.size w0 u
  lo : w0.heap.size ≤ g
  row : ∃ cur : Array Value, u.heap[g]? = some (.cells cur 33 (0, 0)) ∧ cur.size = L.length ∧ (∀ (i : Nat) (l : List Wrt), L[i]? = some l → ∃ v : Value, cur[i]? = some v ∧ u.ownsRow w0.heap.size 32 18 v l.length (l.flatMap encW)) ∧
    ∀ (i j : Nat) (vi vj : Value) (k : Nat), i ≠ j → cur[i]? = some vi → cur[j]? = some vj → vi.ownBlock = some k → vj.ownBlock = some k → False
  oks : ∀ l ∈ L, ∀ W ∈ l, WrtOk W
theorem OwnL.lt {w0 u : World} {g : Nat} {L : List (List Wrt)} (h : OwnL w0 u g L) : g < u.heap.size := by
  obtain ⟨cur, h1, _⟩ := h.row
  exact (Array.getElem?_eq_some_iff.1 h1).1
theorem OwnL.past {w0 u u' : World} {g : Nat} {L : List (List Wrt)} (h : OwnL w0 u g L) (hb : Below u.heap.size u u') : OwnL w0 u' g L := by
  obtain ⟨cur, h1, h2, h3, h4⟩ := h.row
  refine ⟨h.below.trans (hb.mono h.below.size), h.lo, ⟨cur, (hb.block g h.lt).trans h1, h2, fun i l hl => ?_, h4⟩, h.oks⟩
  obtain ⟨v, hv, ho⟩ := h3 i l hl
  exact ⟨v, hv, own_below ho hb (Nat.le_refl _)⟩
theorem made_nils (N : Nat) : (madeCells #[Value.slice none 0 0] N).size = N ∧ ∀ (i : Nat) (v : Value), (madeCells #[Value.slice none 0 0] N)[i]? = some v → v = Value.slice none 0 0 := by
  refine ⟨by simp [madeCells], fun i v hv => ?_⟩
  unfold madeCells at hv
  simp [Nat.mod_one] at hv
  obtain ⟨_, h⟩ := hv
  exact h.symm
theorem OwnL.made {w0 u : World} (hb : Below w0.heap.size w0 u) (N : Nat) : OwnL w0 (u.alloc (.cells (madeCells #[Value.slice none 0 0] N) 33)) u.heap.size (List.replicate N []) := by
  obtain ⟨h1, h2⟩ := made_nils N
  refine ⟨hb.alloc hb.size _, hb.size, ⟨madeCells #[Value.slice none 0 0] N, heap_alloc_new u _, by rw [h1]; simp, fun i l hl => ?_, fun i j vi vj k hij hi hj ei ej => ?_⟩, fun l hl W hW => ?_⟩
  · have hi : i < N := by have := lt_of_get hl; simpa using this
    rw [List.getElem?_replicate, if_pos hi] at hl
    injection hl with hl
    subst hl
    obtain ⟨v, hv⟩ : ∃ v, (madeCells #[Value.slice none 0 0] N)[i]? = some v := ⟨_, Array.getElem?_eq_getElem (by rw [h1]; exact hi)⟩
    obtain rfl := h2 i v hv
    exact ⟨_, hv, World.ownsRow_nil _ _ _ _⟩
  · obtain rfl := h2 i vi hi
    simp [Value.ownBlock] at ei
  · rw [List.eq_of_mem_replicate hl] at hW
    simp at hW
/-- The list at a place: where it lies. -/
theorem OwnL.one {w0 u : World} {g i : Nat} {L : List (List Wrt)} (h : OwnL w0 u g L) {l : List Wrt} (hl : L[i]? = some l) : ∃ a c, u.cell? ⟨g, i, none⟩ = some (.slice a l.length c) ∧ u.frozen? ⟨g, i, none⟩ = false ∧ u.ownsRow w0.heap.size 32 18 (.slice a l.length c) l.length (l.flatMap encW) := by
  obtain ⟨cur, h1, h2, h3, h4⟩ := h.row
  obtain ⟨v, hv, ho⟩ := h3 i l hl
  obtain ⟨a, c, rfl⟩ := own_form ho
  refine ⟨a, c, (cell_of_row u g i cur _ _ h1).trans hv, ?_, ho⟩
  unfold World.frozen?
  rw [h1]
  simp
/-- One more at a place. -/
theorem OwnL.put {w0 u u1 u2 : World} {g i : Nat} {L : List (List Wrt)} (h : OwnL w0 u g L) {l : List Wrt} {W : Wrt} {a : Option Addr} {c : Nat} {v' : Value} (hl : L[i]? = some l) (hv : u.cell? ⟨g, i, none⟩ = some (.slice a l.length c)) (hW : WrtOk W)
    (hb : Below u.heap.size u u1) (hg : u1.grownBy u2 (Value.slice a l.length c).ownBlock) (ho : u2.ownsRow w0.heap.size 32 18 v' (l.length + 1) (l.flatMap encW ++ encW W)) (hat : v'.ownBlock = (Value.slice a l.length c).ownBlock ∨ v'.ownBlock = some u1.heap.size) :
    OwnL w0 (u2.setCell ⟨g, i, none⟩ v') g (L.set i (l ++ [W])) := by
  obtain ⟨cur, h1, h2, h3, h4⟩ := h.row
  have hglt := h.lt
  have hi : i < L.length := lt_of_get hl
  have hcv : cur[i]? = some (.slice a l.length c) := (cell_of_row u g i cur _ _ h1).symm.trans hv
  have hown : u.ownsRow w0.heap.size 32 18 (.slice a l.length c) l.length (l.flatMap encW) := by
    obtain ⟨v, hv2, ho2⟩ := h3 i l hl
    rw [hcv] at hv2
    injection hv2 with hv2
    rw [hv2]; exact ho2
  have hlt : ∀ k, (Value.slice a l.length c).ownBlock = some k → w0.heap.size ≤ k ∧ k < u.heap.size := hown.lt
  have gne : (Value.slice a l.length c).ownBlock ≠ some g := fun e => by
    rcases hown.2 with ⟨e2, _⟩ | ⟨g2, cap, cur2, e2, _, hh, _⟩
    · rw [e2] at e; simp [Value.ownBlock] at e
    · rw [e2] at e
      simp [Value.ownBlock] at e
      rw [e, h1] at hh
      injection hh with hh
      injection hh with _ hh
      exact absurd hh (by decide)
  have hs1 := hb.size
  have hs2 := hg.size
  have hblk : ∀ k, k < u.heap.size → some k ≠ (Value.slice a l.length c).ownBlock → u2.heap[k]? = u.heap[k]? := fun k hk hne => (hg.block k (by omega) hne).trans (hb.block k hk)
  have hgrow : u.grownBy u2 (Value.slice a l.length c).ownBlock := ⟨hg.os.trans hb.os, hg.tape.trans hb.tape, hg.output.trans hb.output, by omega, hblk⟩
  have hg2 : u2.heap[g]? = some (.cells cur 33 (0, 0)) := (hblk g hglt (fun e => gne e.symm)).trans h1
  have hvne : v'.ownBlock ≠ some g := fun e => by
    rcases hat with e2 | e2
    · exact gne (e2.symm.trans e)
    · rw [e2] at e
      injection e with e
      omega
  have hset := setCell_eq_setRow u2 g i cur 33 (0, 0) v' hg2
  have hbel : Below w0.heap.size w0 u2 := h.below.grown hgrow h.below.size (fun k hk => (hlt k hk).1)
  refine ⟨hbel.setCell (p := ⟨g, i, none⟩) h.lo v', h.lo, ⟨cur.setIfInBounds i v', ?_, by simp [h2], fun j m hm => ?_, fun j k vj vk b hjk hj hk ej ek => ?_⟩, fun m hm => ?_⟩
  · rw [hset]; exact setRow_heap u2 g cur _ _ _ hg2
  · by_cases e : i = j
    · subst e
      rw [List.getElem?_set_self hi] at hm
      injection hm with hm
      subst hm
      refine ⟨v', by simp [h2, hi], ?_⟩
      rw [List.length_append, List.flatMap_append]
      have : ([W] : List Wrt).flatMap encW = encW W := by simp
      rw [this]
      exact ownsRow_setCell_other ho (a := ⟨g, i, none⟩) hvne v'
    · rw [List.getElem?_set_ne e] at hm
      obtain ⟨v, hv2, ho2⟩ := h3 j m hm
      refine ⟨v, by rw [Array.getElem?_setIfInBounds_ne e]; exact hv2, ?_⟩
      have hvg : v.ownBlock ≠ some g := fun e3 => by
        rcases ho2.2 with ⟨e2, _⟩ | ⟨g2, cap, cur2, e2, _, hh, _⟩
        · rw [e2] at e3; simp [Value.ownBlock] at e3
        · rw [e2] at e3
          simp [Value.ownBlock] at e3
          rw [e3, h1] at hh
          injection hh with hh
          injection hh with _ hh
          exact absurd hh (by decide)
      refine ownsRow_setCell_other (ho2.kept hgrow ?_) (a := ⟨g, i, none⟩) hvg v'
      cases ev : v.ownBlock with
      | none => exact .inl rfl
      | some k => exact .inr (fun e3 => h4 i j _ v k e hcv hv2 e3.symm ev)
  · have key : ∀ j vj b, j ≠ i → cur[j]? = some vj → vj.ownBlock = some b → v'.ownBlock = some b → False := fun j vj b hji hj ej e => by
      have hjl : j < L.length := by rw [← h2]; exact (Array.getElem?_eq_some_iff.1 hj).1
      obtain ⟨m, hm⟩ : ∃ m, L[j]? = some m := ⟨_, List.getElem?_eq_getElem hjl⟩
      obtain ⟨v, hv2, ho2⟩ := h3 j m hm
      rw [hj] at hv2
      injection hv2 with hv2
      subst hv2
      have := (ho2.lt b ej).2
      rcases hat with e2 | e2
      · exact h4 j i vj _ b hji hj hcv ej (e2.symm.trans e)
      · rw [e2] at e
        injection e with e
        omega
    by_cases e1 : i = j
    · subst e1
      rw [Array.getElem?_setIfInBounds_ne hjk] at hk
      have hj2 : vj = v' := by
        rw [Array.getElem?_setIfInBounds_self_of_lt (by rw [h2]; exact hi)] at hj
        injection hj with hj
        exact hj.symm
      subst hj2
      exact key k vk b (fun e => hjk e.symm) hk ek ej
    · rw [Array.getElem?_setIfInBounds_ne e1] at hj
      by_cases e2 : i = k
      · subst e2
        have hk2 : vk = v' := by
          rw [Array.getElem?_setIfInBounds_self_of_lt (by rw [h2]; exact hi)] at hk
          injection hk with hk
          exact hk.symm
        subst hk2
        exact key j vj b (fun e => e1 e.symm) hj ej ek
      · rw [Array.getElem?_setIfInBounds_ne e2] at hk
        exact h4 j k vj vk b hjk hj hk ej ek
  · rcases List.mem_or_eq_of_mem_set hm with hm | rfl
    · exact h.oks m hm
    · intro V hV
      rcases List.mem_append.1 hV with hV | hV
      · exact h.oks l (List.mem_of_getElem? hl) V hV
      · rw [List.mem_singleton.1 hV]; exact hW
/-- A list of lists of writes that lies somewhere. -/
structure SpAt (w : World) (g : Nat) (L : List (List Wrt)) : Prop where
  each : ∀ (i : Nat) (l : List Wrt), L[i]? = some l → ∃ a c, w.cell? ⟨g, i, none⟩ = some (.slice a l.length c) ∧ l.length ≤ c ∧ WrtsAt w a l
theorem SpAt.past {w w' : World} {g : Nat} {L : List (List Wrt)} (h : SpAt w g L) (hb : Below w.heap.size w w') : SpAt w' g L := ⟨fun i l hl => by
  obtain ⟨a, c, h1, h2, h3⟩ := h.each i l hl
  exact ⟨a, c, (hb.cell (p := ⟨g, i, none⟩) (lt_of_cell h1)).trans h1, h2, h3.past hb⟩⟩
theorem OwnL.lies {w0 u : World} {g : Nat} {L : List (List Wrt)} (h : OwnL w0 u g L) : SpAt u g L := ⟨fun i l hl => by
  obtain ⟨a, c, h1, _, h3⟩ := h.one hl
  obtain ⟨a2, c2, e, h4, h5⟩ := own_wrtsR h3 rfl (h.oks l (List.mem_of_getElem? hl))
  injection e with e1 _ e2
  subst e1
  subst e2
  exact ⟨a, c, h1, h4, h5⟩⟩
/-- A list of numbers that lies somewhere. -/
def NumsR (w : World) (a : Option Addr) (zs : List Int) : Prop := ∀ (i : Nat) (z : Int), zs[i]? = some z → ∃ g, a = some ⟨g, 0, none⟩ ∧ w.cell? ⟨g, i, none⟩ = some (.int .i64 z)
theorem NumsR.past {w w' : World} {a : Option Addr} {zs : List Int} (h : NumsR w a zs) (hb : Below w.heap.size w w') : NumsR w' a zs := fun i z hz => by
  obtain ⟨g, e, hc⟩ := h i z hz
  exact ⟨g, e, (hb.cell (p := ⟨g, i, none⟩) (lt_of_cell hc)).trans hc⟩
theorem own_numsR {w : World} {B N c : Nat} {a : Option Addr} {zs : List Int} (h : w.ownsRow B 3 1 (.slice a N c) N (zs.map (Value.int .i64))) (hl : zs.length = N) : NumsR w a zs ∧ N ≤ c := by
  rcases h.2 with ⟨e, h0⟩ | ⟨g, cap, cur, e, hg, hh, h1, h2, h3, h4⟩
  · cases e
    exact ⟨fun i z hz => by have := lt_of_get hz; omega, by omega⟩
  · cases e
    refine ⟨fun i z hz => ⟨g, rfl, ?_⟩, h1⟩
    have hL : Lies w (some ⟨g, 0, none⟩) (zs.map (Value.int .i64)) := own_lies h
    have := hL.at i (.int .i64 z) (by rw [List.getElem?_map, hz]; rfl)
    rwa [Nat.zero_add] at this
section
open Go.ChangeShapes Go.WideShapes Go.ChangeAt Go.Deep
variable {H : Type} {enc : TypeId × Value → H} {w : World} {base : Nat} {held : Bool}
end
end Go.Proofs.Ytdbgkbgodnknnaa
