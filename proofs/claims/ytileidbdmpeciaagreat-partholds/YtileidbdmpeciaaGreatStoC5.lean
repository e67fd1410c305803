/-
  What package store answers and leaves: Apply, Keys.
-/
import Derived.Test.YtileidbdmpeciaaGreatStoC4
import Derived.Test.YtileidbdmpeciaaGreatAu62
namespace Go.Proofs.YtileidbdmpeciaaGreat
open Go.RowKit
set_option linter.unusedVariables false

theorem WrtAt.kept {u u' : World} {b o : Nat} {W : Wrt} (h : WrtAt u b o W) (hk : u'.heap[b]? = u.heap[b]?) : WrtAt u' b o W :=
  ⟨lies_of fun j v hj => (cell_kept hk _).trans (h.lies.at j v hj)⟩
theorem WrtsAt.kept {u u' : World} {a : Option Addr} {l : List Wrt} (h : WrtsAt u a l) (hk : ∀ b o, a = some ⟨b, o, none⟩ → b < u.heap.size → u'.heap[b]? = u.heap[b]?) : WrtsAt u' a l :=
  ⟨h.cells.imp id (fun ⟨b, o, e, hc⟩ => ⟨b, o, e, fun i W hW => (hc i W hW).kept (hk b o e ((hc i W hW).lt (h.oks W (List.mem_of_getElem? hW)).key))⟩), h.oks⟩
/-- A list that lies in none of X's blocks. -/
def Far (a : Option Addr) (X : Foot) : Prop := ∀ b o, a = some ⟨b, o, none⟩ → ¬ X b
theorem one_put {L : List Ver} (h : OrdK L) (V : Ver) : updL (oneV L) V.k (putV (oneV L V.k) (bare V)).2 = oneV (putV L V).2 := by
  funext x
  by_cases e : x = V.k
  · subst e; rw [updL_same, put_own h]
  · rw [updL_other e, put_other h V x e]
/-- One write of many that are well. -/
theorem sputd_any (p : Nat) (L : List Ver) (X : Foot) (V : Ver) (hV : VerIn (bare V)) (hk : Ky V.k) (w : World) (h : StD w p L X) (h0 : (putV L V).1 = 0) (hg' : StoG (putV L V).2) :
    Calls Tryz.prog 99 #[.pointer (some ⟨p, 0, none⟩), kv V.k, cvv (bare V)] w fun e w' => e = .returned (.tuple #[]) ∧ ∃ X', StD w' p (putV L V).2 X' ∧ Did w w' X X' := by
  obtain ⟨hg, m, G, Y, hi, hne⟩ := h
  have hkl := sti_keys hg.sto.ord hg.kys hi hne
  refine (sput_any p (oneV L) X m G Y (keysV L) V.k hk (bare V) hV w hi hkl (by have := hg.few; omega)).mono ?_
  rintro e w' ⟨rfl, X', G', Y', j1, j2, j3, j4⟩
  rw [one_put hg.sto.ord V] at j1
  refine ⟨rfl, X', ⟨hg', m, G', Y', j1, fun k g hky hgk => ?_⟩, j2⟩
  by_cases e : k = V.k
  · subst e
    rw [put_own hg.sto.ord]
    intro hn
    have := put_grows (L := oneV L V.k) (V := bare V) (by rw [← put_code]; exact h0)
    rw [hn] at this
    simp at this
  · rw [j4 k e] at hgk
    rw [put_other hg.sto.ord V k e]
    exact hne k g hky hgk
theorem puts_take {t n : Int} {l : List Wrt} {L : List Ver} {i : Nat} {W : Wrt} (h : l[i]? = some W) : putsW t n (l.take (i + 1)) L = (putV (putsW t n (l.take i) L) (verW t n W)).2 := by
  unfold putsW
  rw [List.take_add_one, h]
  simp [List.foldl_append]
theorem any_take {α : Type} {p : α → Bool} {l : List α} (h : l.any p = false) (i : Nat) : (l.take i).any p = false := by
  rw [List.any_eq_false] at h ⊢
  exact fun x hx => h x (List.mem_of_mem_take hx)
/-- Writes that are well, one by one: each beginning of them is a store. -/
theorem puts_facts2 {t n : Int} {L : List Ver} {l : List Wrt} (hL : StoG L) (hn : 0 ≤ n ∧ n ≤ 255) (ht : okS t) (hm : mayW l 1 = true) (hw : anyWr L t n l = false) (hf : anyFu L l = false) (hk : (keysV L).length + newW L l ≤ 200) (hb : ∀ W ∈ l, Ky W.k ∧ ∀ z ∈ W.v, 0 ≤ z ∧ z ≤ 255) (i : Nat) :
    StoG (putsW t n (l.take i) L) ∧ ∀ W, l[i]? = some W → (putV (putsW t n (l.take i) L) (verW t n W)).1 = 0 := by
  obtain ⟨m1, m2, _⟩ := may_w (n := n) ht hm
  have hs := puts_sto (t := t) hn (l.take i) L hL.sto hL.kys (fun W hW => hb W (List.mem_of_mem_take hW))
  have hkeys := keys_puts (t := t) (n := n) (l.take i) L hL.sto.ord (fun W hW => m1 W (List.mem_of_mem_take hW)) (List.Pairwise.sublist (List.take_sublist i l) m2) (any_take hw i) (any_take hf i)
  have hnew : newW L (l.take i) ≤ newW L l := by
    unfold newW
    exact (List.Sublist.filter _ (List.take_sublist i l)).length_le
  refine ⟨⟨hs.1, hs.2, by omega⟩, fun W hW => ?_⟩
  have hWl := List.mem_of_getElem? hW
  have hpre : ∀ (r : List Wrt) (M : List Ver), OrdK M → (∀ X ∈ r, X.k ≠ W.k) → clashV (putsW t n r M) (verW t n W) = clashV M (verW t n W) ∧ kMany (putsW t n r M) W.k = kMany M W.k := by
    intro r
    induction r with
    | nil => intro M _ _; exact ⟨rfl, rfl⟩
    | cons X r ih =>
      intro M hM hr
      have hne : (verW t n W).k ≠ (verW t n X).k := Ne.symm (hr X (by simp))
      obtain ⟨i1, i2⟩ := ih (putV M (verW t n X)).2 (ord_put hM _) (fun Z hZ => hr Z (by simp [hZ]))
      exact ⟨i1.trans (clash_else hM _ _ hne), i2.trans (many_else hM _ hne)⟩
  have hdist : ∀ X ∈ l.take i, X.k ≠ W.k := fun X hX => by
    obtain ⟨j, hj, e⟩ := List.getElem_of_mem hX
    have hji : j < i := by rw [List.length_take] at hj; omega
    have hil := (List.getElem?_eq_some_iff.1 hW).1
    have h1 := List.pairwise_iff_getElem.1 m2 j i (by omega) hil hji
    rw [List.getElem_take] at e
    rw [e] at h1
    have : l[i] = W := (List.getElem?_eq_some_iff.1 hW).2
    rw [this] at h1
    exact h1
  obtain ⟨e1, e2⟩ := hpre (l.take i) L hL.sto.ord hdist
  rw [put_code_is (m1 W hWl), e1]
  have hc : clashV L (verW t n W) = false := by
    have := List.any_eq_false.1 hw W hWl
    simpa using this
  have hf2 : ¬ 50 ≤ kMany L W.k := by
    have := List.any_eq_false.1 hf W hWl
    simpa using this
  have e3 : kMany (putsW t n (l.take i) L) (verW t n W).k = kMany L W.k := e2
  rw [if_neg (by rw [hc]; simp), e3, if_neg hf2]
/-- What Apply's rounds hold. -/
structure ApR (W0 u : World) (p : Nat) (L : List Ver) (X : Foot) : Prop where
  st : ∃ X', StD u p L X' ∧ Did W0 u X X'
theorem ApR.box {W0 u : World} {p : Nat} {L : List Ver} {X : Foot} (h : ApR W0 u p L X) {b : Nat} (hb : b < W0.heap.size) (hX : ¬ X b) : u.heap[b]? = W0.heap[b]? := by
  obtain ⟨X', _, d⟩ := h.st
  exact d.chg.block b hb hX
theorem ApR.past {W0 u u' : World} {p : Nat} {L : List Ver} {X : Foot} (h : ApR W0 u p L X) (hb : Below u.heap.size u u') : ApR W0 u' p L X := by
  obtain ⟨X', h1, d⟩ := h.st
  exact ⟨X', h1.past hb, d.trans (Did.stay hb h1.lt)⟩
set_option maxHeartbeats 4000000 in
set_option maxRecDepth 4000 in
theorem sapply_any (p : Nat) (L : List Ver) (X : Foot) (t n : Int) (hn : 0 ≤ n ∧ n ≤ 255) (a : Option Addr) (N cap : Nat) (l : List Wrt) (w : World) (h : StD w p L X) (hl : l.length = N) (hc : N ≤ cap) (hN : N ≤ 1000000) (hat : WrtsAt w a l) (hfar : l ≠ [] → Far a X) :
    Calls Tryz.prog 50 #[.pointer (some ⟨p, 0, none⟩), .agg #[.int .i64 t, .int .u8 n], .slice a N cap] w fun e w' => e = .returned (.int .i64 (applyV L t n l).1) ∧ ∃ X', StD w' p (applyV L t n l).2 X' ∧ Did w w' X X' := by
  have hg := h.1
  rw [apply_is hg.sto.ord]
  obtain ⟨W0, hW0⟩ : ∃ u, u = w.alloc (.cells #[.int .i64 t, .int .u8 n] 28) := ⟨_, rfl⟩
  have HB0 : Hid (Below w.heap.size w W0) := by rw [hW0]; exact (Below.refl _ _).alloc (Nat.le_refl _) _
  have hs0 : W0.heap.size = w.heap.size + 1 := by rw [hW0]; simp
  have hX0 : ¬ X w.heap.size := fun x => by have := h.lt _ x; omega
  have kt : ∀ o, W0.cell? ⟨w.heap.size, o, none⟩ = (#[.int .i64 t, .int .u8 n] : Array Value)[o]? := fun o => by rw [hW0]; exact World.cell?_alloc_new _ _ _ _
  have FT : Hid (∀ u, Below W0.heap.size W0 u → u.cell? ⟨w.heap.size, 0, none⟩ = some (.int .i64 t) ∧ u.cell? ⟨w.heap.size, 1, none⟩ = some (.int .u8 n)) := fun u hb => ⟨(hb.cell (p := ⟨w.heap.size, 0, none⟩) (by show w.heap.size < _; omega)).trans (kt 0), (hb.cell (p := ⟨w.heap.size, 1, none⟩) (by show w.heap.size < _; omega)).trans (kt 1)⟩
  have HW0 : Hid (w.alloc (.cells #[.int .i64 t, .int .u8 n] 28) = W0) := hW0.symm
  have HST : Hid (∀ u, Below W0.heap.size W0 u → ApR W0 u p L X) := fun u hb => ⟨X, (h.past HB0.out).past hb, Did.stay hb (h.past HB0.out).lt⟩
  have HSAME : Hid (∀ u, Below W0.heap.size W0 u → ∃ X', StD u p L X' ∧ Did w u X X') := fun u hb => ⟨X, (h.past HB0.out).past hb, (Did.stay HB0.out h.lt).trans (Did.stay hb (h.past HB0.out).lt)⟩
  have CG0 : ∀ u, Calls Tryz.prog 47 #[.agg #[.int .i64 t, .int .u8 n]] u fun e w' => e = .returned (.bool (decide (okS t))) ∧ Below u.heap.size u w' := fun u => sgood_any t n u
  have CM0 : ∀ u, Below W0.heap.size W0 u → Calls Tryz.prog 82 #[.slice a N cap] u fun e w' => e = .returned (.bool (mayW l 1)) ∧ Below u.heap.size u w' := fun u hb => sgoods_any a N cap l u hl hc hN ((hat.past HB0.out).past hb)
  have CW0 : ∀ u, Below W0.heap.size W0 u → Calls Tryz.prog 96 #[.pointer (some ⟨p, 0, none⟩), .agg #[.int .i64 t, .int .u8 n], .slice a N cap] u fun e w' => e = .returned (.bool (anyWr L t n l)) ∧ Below u.heap.size u w' := fun u hb => swritten_any p L X t n a N cap l u ((h.past HB0.out).past hb) hl hc hN ((hat.past HB0.out).past hb)
  have CF0 : ∀ u, Below W0.heap.size W0 u → Calls Tryz.prog 97 #[.pointer (some ⟨p, 0, none⟩), .slice a N cap] u fun e w' => e = .returned (.bool (anyFu L l)) ∧ Below u.heap.size u w' := fun u hb => sfull_any p L X a N cap l u ((h.past HB0.out).past hb) hl hc hN ((hat.past HB0.out).past hb)
  have CC0 : ∀ u, Below W0.heap.size W0 u → Calls Tryz.prog 98 #[.pointer (some ⟨p, 0, none⟩), .slice a N cap] u fun e w' => e = .returned (.int .i64 (newW L l : Nat)) ∧ Below u.heap.size u w' := fun u hb => scount_any p L X a N cap l u ((h.past HB0.out).past hb) hl hc hN ((hat.past HB0.out).past hb)
  obtain ⟨y0, y1⟩ := FT.out W0 (Below.refl _ _)
  by_cases hok : okS t
  rotate_left
  · rw [decide_eq_false hok, Bool.false_and, if_pos rfl]
    rw [decide_eq_false hok] at CG0
    have CG : Hid (∀ u, Calls Tryz.prog 47 #[.agg #[.int .i64 t, .int .u8 n]] u fun e w' => e = .returned (.bool false) ∧ Below u.heap.size u w') := CG0
    clear h hat hg hW0 hs0 hX0 kt CM0 CW0 CF0 CC0 CG0 hfar hok
    go_enter Tryz.func50, Tryz.ntmps50
    go_wp2_with (first | (go_at_call 47; rw [HW0.out]; refine (CG.out _).mono ?_; rintro e w1 ⟨rfl, hb1⟩; have HB1 : Hid (Below W0.heap.size W0 w1) := hb1; clear hb1))
    go_ret
    exact ⟨rfl, HSAME.out _ HB1.out⟩
  rw [decide_eq_true hok, Bool.true_and]
  rw [decide_eq_true hok] at CG0
  have CG : Hid (∀ u, Calls Tryz.prog 47 #[.agg #[.int .i64 t, .int .u8 n]] u fun e w' => e = .returned (.bool true) ∧ Below u.heap.size u w') := CG0
  cases hmay : mayW l 1 with
  | false =>
    rw [if_pos rfl]
    rw [hmay] at CM0
    have CM : Hid (∀ u, Below W0.heap.size W0 u → Calls Tryz.prog 82 #[.slice a N cap] u fun e w' => e = .returned (.bool false) ∧ Below u.heap.size u w') := CM0
    clear h hat hg hW0 hs0 hX0 kt CM0 CW0 CF0 CC0 CG0 hfar hok hmay
    go_enter Tryz.func50, Tryz.ntmps50
    go_wp2_with (first | (go_at_call 47; rw [HW0.out]; refine (CG.out _).mono ?_; rintro e w1 ⟨rfl, hb1⟩; have HB1 : Hid (Below W0.heap.size W0 w1) := hb1; clear hb1) | (go_at_call 82; refine (CM.out _ HB1.out).mono ?_; rintro e w2 ⟨rfl, hb2⟩; have HB2 : Hid (Below W0.heap.size W0 w2) := HB1.out.trans (hb2.mono HB1.out.size); clear hb2))
    go_ret
    exact ⟨rfl, HSAME.out _ HB2.out⟩
  | true =>
    rw [if_neg (by simp)]
    rw [hmay] at CM0
    have CM : Hid (∀ u, Below W0.heap.size W0 u → Calls Tryz.prog 82 #[.slice a N cap] u fun e w' => e = .returned (.bool true) ∧ Below u.heap.size u w') := CM0
    cases hwr : anyWr L t n l with
    | true =>
      rw [if_pos rfl]
      rw [hwr] at CW0
      have CW : Hid (∀ u, Below W0.heap.size W0 u → Calls Tryz.prog 96 #[.pointer (some ⟨p, 0, none⟩), .agg #[.int .i64 t, .int .u8 n], .slice a N cap] u fun e w' => e = .returned (.bool true) ∧ Below u.heap.size u w') := CW0
      clear h hat hg hW0 hs0 hX0 kt CM0 CW0 CF0 CC0 CG0 hfar hok hmay hwr
      go_enter Tryz.func50, Tryz.ntmps50
      go_wp2_with (first | (go_at_call 47; rw [HW0.out]; refine (CG.out _).mono ?_; rintro e w1 ⟨rfl, hb1⟩; have HB1 : Hid (Below W0.heap.size W0 w1) := hb1; clear hb1) | (go_at_call 82; refine (CM.out _ HB1.out).mono ?_; rintro e w2 ⟨rfl, hb2⟩; have HB2 : Hid (Below W0.heap.size W0 w2) := HB1.out.trans (hb2.mono HB1.out.size); obtain ⟨x0, x1⟩ := FT.out w2 HB2.out; clear hb2) | (go_at_call 96; refine (CW.out _ HB2.out).mono ?_; rintro e w3 ⟨rfl, hb3⟩; have HB3 : Hid (Below W0.heap.size W0 w3) := HB2.out.trans (hb3.mono HB2.out.size); clear hb3))
      go_ret
      exact ⟨rfl, HSAME.out _ HB3.out⟩
    | false =>
      rw [if_neg (by simp)]
      rw [hwr] at CW0
      have CW : Hid (∀ u, Below W0.heap.size W0 u → Calls Tryz.prog 96 #[.pointer (some ⟨p, 0, none⟩), .agg #[.int .i64 t, .int .u8 n], .slice a N cap] u fun e w' => e = .returned (.bool false) ∧ Below u.heap.size u w') := CW0
      cases hfu : anyFu L l with
      | true =>
        rw [Bool.true_or, if_pos rfl]
        rw [hfu] at CF0
        have CF : Hid (∀ u, Below W0.heap.size W0 u → Calls Tryz.prog 97 #[.pointer (some ⟨p, 0, none⟩), .slice a N cap] u fun e w' => e = .returned (.bool true) ∧ Below u.heap.size u w') := CF0
        clear h hat hg hW0 hs0 hX0 kt CM0 CW0 CF0 CC0 CG0 hfar hok hmay hwr hfu
        go_enter Tryz.func50, Tryz.ntmps50
        go_wp2_with (first | (go_at_call 47; rw [HW0.out]; refine (CG.out _).mono ?_; rintro e w1 ⟨rfl, hb1⟩; have HB1 : Hid (Below W0.heap.size W0 w1) := hb1; clear hb1) | (go_at_call 82; refine (CM.out _ HB1.out).mono ?_; rintro e w2 ⟨rfl, hb2⟩; have HB2 : Hid (Below W0.heap.size W0 w2) := HB1.out.trans (hb2.mono HB1.out.size); obtain ⟨x0, x1⟩ := FT.out w2 HB2.out; clear hb2) | (go_at_call 96; refine (CW.out _ HB2.out).mono ?_; rintro e w3 ⟨rfl, hb3⟩; have HB3 : Hid (Below W0.heap.size W0 w3) := HB2.out.trans (hb3.mono HB2.out.size); clear hb3) | (go_at_call 97; refine (CF.out _ HB3.out).mono ?_; rintro e w4 ⟨rfl, hb4⟩; have HB4 : Hid (Below W0.heap.size W0 w4) := HB3.out.trans (hb4.mono HB3.out.size); clear hb4))
        go_ret
        exact ⟨rfl, HSAME.out _ HB4.out⟩
      | false =>
        rw [Bool.false_or]
        rw [hfu] at CF0
        have CF : Hid (∀ u, Below W0.heap.size W0 u → Calls Tryz.prog 97 #[.pointer (some ⟨p, 0, none⟩), .slice a N cap] u fun e w' => e = .returned (.bool false) ∧ Below u.heap.size u w') := CF0
        have hnl := new_le L l
        rw [hl] at hnl
        obtain ⟨Q, hQ⟩ : ∃ Q, Q = newW L l := ⟨_, rfl⟩
        obtain ⟨M, hM⟩ : ∃ M, M = (keysV L).length := ⟨_, rfl⟩
        have hfew := hg.few
        rw [← hQ] at CC0 hnl
        rw [← hM] at hfew
        have CC : Hid (∀ u, Below W0.heap.size W0 u → Calls Tryz.prog 98 #[.pointer (some ⟨p, 0, none⟩), .slice a N cap] u fun e w' => e = .returned (.int .i64 (Q : Nat)) ∧ Below u.heap.size u w') := CC0
        obtain ⟨m, HMC, HLEN⟩ : ∃ m, Hid (∀ u, Below W0.heap.size W0 u → u.cell? ⟨p, 0, none⟩ = some (.map (some m))) ∧ Hid (∀ u, Below W0.heap.size W0 u → ∀ ty, (Builtin.len_ #[137] ty #[.map (some m)]).run Tryz.prog u = .ok (.int .i64 (M : Nat)) u) := by
          obtain ⟨_, m, G, Y, hi, hne⟩ := h
          have hkl := sti_keys hg.sto.ord hg.kys hi hne
          refine ⟨m, fun u hb => ((hi.past HB0.out).past hb).c0, fun u hb ty => ?_⟩
          rw [hM]
          exact ((hi.past HB0.out).past hb).map.len hkl Tryz.underlying137 ty
        have hnn : N ≤ 1000000 := hN
        rw [← hQ, ← hM]
        by_cases h200 : 200 < M + Q
        · rw [decide_eq_true h200, if_pos rfl]
          have d1 : (200 : Int) < (M : Int) + (Q : Int) := by omega
          clear h hat hg hW0 hs0 hX0 kt CM0 CW0 CF0 CC0 CG0 hfar hok hmay hwr hfu hQ hM
          go_enter Tryz.func50, Tryz.ntmps50
          go_wp2_with (first | (go_at_call 47; rw [HW0.out]; refine (CG.out _).mono ?_; rintro e w1 ⟨rfl, hb1⟩; have HB1 : Hid (Below W0.heap.size W0 w1) := hb1; clear hb1) | (go_at_call 82; refine (CM.out _ HB1.out).mono ?_; rintro e w2 ⟨rfl, hb2⟩; have HB2 : Hid (Below W0.heap.size W0 w2) := HB1.out.trans (hb2.mono HB1.out.size); obtain ⟨x0, x1⟩ := FT.out w2 HB2.out; clear hb2) | (go_at_call 96; refine (CW.out _ HB2.out).mono ?_; rintro e w3 ⟨rfl, hb3⟩; have HB3 : Hid (Below W0.heap.size W0 w3) := HB2.out.trans (hb3.mono HB2.out.size); clear hb3) | (go_at_call 97; refine (CF.out _ HB3.out).mono ?_; rintro e w4 ⟨rfl, hb4⟩; have HB4 : Hid (Below W0.heap.size W0 w4) := HB3.out.trans (hb4.mono HB3.out.size); have q4 := HMC.out w4 HB4.out; have hl4 := HLEN.out w4 HB4.out; clear hb4) | ((with_reducible show wpList _ _ _ (Oper.mk (some 29) _ _ _ _ _ :: _) _ _); refine wpList_len_is 29 (by rfl) (by rfl) _ 137 (by rfl) m _ (by rfl) hl4 ?_) | (go_at_call 98; refine (CC.out _ HB4.out).mono ?_; rintro e w5 ⟨rfl, hb5⟩; have HB5 : Hid (Below W0.heap.size W0 w5) := HB4.out.trans (hb5.mono HB4.out.size); clear hb5 q4 hl4))
          go_ret
          exact ⟨rfl, HSAME.out _ HB5.out⟩
        · rw [decide_eq_false h200, if_neg (by simp)]
          have d1 : ¬ (200 : Int) < (M : Int) + (Q : Int) := by omega
          have hbs : ∀ W ∈ l, Ky W.k ∧ ∀ z ∈ W.v, 0 ≤ z ∧ z ≤ 255 := fun W hW => ⟨(hat.oks W hW).key, (hat.oks W hW).val⟩
          have HPF : Hid (∀ i, StoG (putsW t n (l.take i) L) ∧ ∀ W, l[i]? = some W → (putV (putsW t n (l.take i) L) (verW t n W)).1 = 0) := fun i => puts_facts2 hg hn hok hmay hwr hfu (by rw [← hQ, ← hM]; omega) hbs i
          have HL : Hid (l.length = N) := hl
          have HA : Hid (∀ u q, ApR W0 u p q X → WrtsAt u a l) := fun u q hu => by
            by_cases hl0 : l = []
            · exact ⟨.inl hl0, hat.oks⟩
            · exact (hat.past HB0.out).kept (fun b o e hb => hu.box hb (hfar hl0 b o e))
          have FT2 : Hid (∀ u q, ApR W0 u p q X → u.cell? ⟨w.heap.size, 0, none⟩ = some (.int .i64 t) ∧ u.cell? ⟨w.heap.size, 1, none⟩ = some (.int .u8 n)) := fun u q hu => by
            have hk := hu.box (b := w.heap.size) (by omega) hX0
            exact ⟨(cell_kept hk 0).trans (kt 0), (cell_kept hk 1).trans (kt 1)⟩
          have hti : -9223372036854775808 ≤ t ∧ t ≤ 9223372036854775807 := by unfold okS at hok; omega
          have HCP : Hid (∀ i W, l[i]? = some W → ∀ u, ApR W0 u p (putsW t n (l.take i) L) X → Calls Tryz.prog 99 #[.pointer (some ⟨p, 0, none⟩), kv W.k, .agg #[.int .i64 t, .int .u8 n, .string (strOfNums W.v), .bool W.g]] u fun e w' => e = .returned (.tuple #[]) ∧ ApR W0 w' p (putsW t n (l.take (i + 1)) L) X) := fun i W hW u hu => by
            obtain ⟨X', hs, hd⟩ := hu.st
            obtain ⟨f1, f2⟩ := HPF.out i
            have hwo := hat.oks W (List.mem_of_getElem? hW)
            have hg2 := (HPF.out (i + 1)).1
            rw [puts_take hW] at hg2 ⊢
            refine (sputd_any p _ X' (verW t n W) ⟨rfl, hti, hn, hwo.val, hwo.few⟩ hwo.key u hs (f2 W hW) hg2).mono ?_
            rintro e w' ⟨rfl, X2, k1, k2⟩
            exact ⟨rfl, X2, k1, hd.trans k2⟩
          have HEND : Hid (∀ u, ApR W0 u p (putsW t n (l.take N) L) X → ∃ X', StD u p (putsW t n l L) X' ∧ Did w u X X') := fun u hu => by
            obtain ⟨X', hs, hd⟩ := hu.st
            rw [List.take_of_length_le (by rw [hl]; exact Nat.le_refl _)] at hs
            exact ⟨X', hs, (Did.stay HB0.out h.lt).trans hd⟩
          have HOK : Hid (∀ W ∈ l, WrtOk W) := hat.oks
          clear h hat hg hW0 hs0 hX0 kt CM0 CW0 CF0 CC0 CG0 hfar hok hmay hwr hfu hQ hM hbs HPF hti HSAME
          go_enter Tryz.func50, Tryz.ntmps50
          go_wp2_with (first | (go_at_call 47; rw [HW0.out]; refine (CG.out _).mono ?_; rintro e w1 ⟨rfl, hb1⟩; have HB1 : Hid (Below W0.heap.size W0 w1) := hb1; clear hb1) | (go_at_call 82; refine (CM.out _ HB1.out).mono ?_; rintro e w2 ⟨rfl, hb2⟩; have HB2 : Hid (Below W0.heap.size W0 w2) := HB1.out.trans (hb2.mono HB1.out.size); obtain ⟨x0, x1⟩ := FT.out w2 HB2.out; clear hb2) | (go_at_call 96; refine (CW.out _ HB2.out).mono ?_; rintro e w3 ⟨rfl, hb3⟩; have HB3 : Hid (Below W0.heap.size W0 w3) := HB2.out.trans (hb3.mono HB2.out.size); clear hb3 x0 x1) | (go_at_call 97; refine (CF.out _ HB3.out).mono ?_; rintro e w4 ⟨rfl, hb4⟩; have HB4 : Hid (Below W0.heap.size W0 w4) := HB3.out.trans (hb4.mono HB3.out.size); have q4 := HMC.out w4 HB4.out; have hl4 := HLEN.out w4 HB4.out; clear hb4) | ((with_reducible show wpList _ _ _ (Oper.mk (some 29) _ _ _ _ _ :: _) _ _); refine wpList_len_is 29 (by rfl) (by rfl) _ 137 (by rfl) m _ (by rfl) hl4 ?_) | (go_at_call 98; refine (CC.out _ HB4.out).mono ?_; rintro e w5 ⟨rfl, hb5⟩; have HB5 : Hid (Below W0.heap.size W0 w5) := HB4.out.trans (hb5.mono HB4.out.size); clear hb5 q4 hl4))
          clear CG CM CW CF CC HMC HLEN HB1 HB2 HB3 HB4 d1 y0 y1 FT
          go_loopw [38] (fun iv wr => ∃ i : Nat, i ≤ N ∧ iv = .int .i64 i ∧ Hid (ApR W0 wr p (putsW t n (l.take i) L) X)) (fun iv _ => N - (intOf iv).toNat)
          case atStart => exact ⟨0, Nat.zero_le _, rfl, HST.out _ HB5.out⟩
          case round =>
            obtain ⟨i, hi, rfl, HS⟩ := hrel
            have hi0 : (0 : Int) ≤ (i : Int) := by omega
            by_cases hlt : i < N
            · have h1 : (i : Int) < (N : Int) := by omega
              obtain ⟨W, hW⟩ : ∃ W, l[i]? = some W := ⟨_, List.getElem?_eq_getElem (by rw [HL.out]; exact hlt)⟩
              obtain ⟨b, o, rfl, hwa, hwo⟩ := (HA.out wr _ HS.out).wrt hW
              have HWA : Hid (WrtAt wr b (o + i * 18) W) := hwa
              have KW : Hid (Ky W.k) := hwo.key
              have CP : Hid (∀ u, ApR W0 u p (putsW t n (l.take i) L) X → Calls Tryz.prog 99 #[.pointer (some ⟨p, 0, none⟩), kv W.k, .agg #[.int .i64 t, .int .u8 n, .string (strOfNums W.v), .bool W.g]] u fun e w' => e = .returned (.tuple #[]) ∧ ApR W0 w' p (putsW t n (l.take (i + 1)) L) X) := fun u hu => HCP.out i W hW u hu
              have hmine := WrtMine.made wr 80 zeroW zeroW_ky
              obtain ⟨hk1, hb1, hz1⟩ := laid_wrt wr 80 (W := W) hwo.key
              rw [zeroW_cells] at hmine hk1 hb1 hz1
              have HMI : Hid _ := hmine
              have HK1 : Hid _ := hk1
              have H1 : Hid (ApR W0 _ p (putsW t n (l.take i) L) X) := HS.out.past hb1
              clear hmine hk1 hb1 hz1 hwa hwo hW
              obtain ⟨K1, hK1⟩ : ∃ x, x = W.k := ⟨_, rfl⟩
              obtain ⟨S1, hS1⟩ : ∃ x, x = strOfNums W.v := ⟨_, rfl⟩
              obtain ⟨G1, hG1⟩ : ∃ x, x = W.g := ⟨_, rfl⟩
              have HWW : Hid (K1 = W.k ∧ S1 = strOfNums W.v ∧ G1 = W.g) := ⟨hK1, hS1, hG1⟩
              rw [← hK1, ← hS1, ← hG1] at CP
              clear hK1 hS1 hG1
              go_wp2_with (first | (have hgo := HWA.out; clear hgo; refine wpList_load_wrt 41 (by rfl) (by rfl) _ (by rfl) b (o + i * 18) (by rfl) W KW.out HWA.out ?_) | (have hgo := HMI.out; clear hgo; refine wpList_store_wrt (.tmp 8) (by rfl) _ (by rfl) wr.heap.size 0 zeroW W (by rfl) (by rfl) KW.out HMI.out ?_; intro u2 hu; rw [← hu] at HK1 H1; have HKA : Hid (KeyAt u2 wr.heap.size 0 K1) := (by rw [HWW.out.1]; exact HK1.out.at_.key KW.out); have hc := HK1.out.at_.c0 KW.out; rw [← HWW.out.2.1, ← HWW.out.2.2] at hc; obtain ⟨v0, v1⟩ := hc; obtain ⟨x0, x1⟩ := FT2.out u2 _ H1.out; clear hu HMI HWA) | (have hgo := HKA.out; clear hgo; refine wpList_load_keyD 44 (by rfl) (by rfl) _ (by rfl) wr.heap.size 0 (by rfl) K1 (by rw [HWW.out.1]; exact KW.out) HKA.out ?_) | (go_at_call 99; refine (CP.out _ H1.out).mono ?_; rintro e w3 ⟨rfl, h3⟩; have H3 : Hid (ApR W0 w3 p (putsW t n (l.take (i + 1)) L) X) := h3; clear h3 v0 v1 x0 x1))
              go_roundw
              case rel => exact ⟨i + 1, by omega, by go_num, H3⟩
              case measure => simp [intOf]; omega
            · obtain rfl : i = N := by omega
              go_wp2
              go_ret
              exact ⟨rfl, HEND.out _ HS.out⟩
set_option maxHeartbeats 1000000 in
theorem skeys_any (p : Nat) (L : List Ver) (X : Foot) (w : World) (h : StD w p L X) :
    Calls Tryz.prog 79 #[.pointer (some ⟨p, 0, none⟩)] w fun e w' => (∃ a' cap', e = .returned (.slice a' (keysV L).length cap') ∧ KeysAt w' a' (keysV L) ∧ (keysV L).length ≤ cap') ∧ Below w.heap.size w w' := by
  obtain ⟨hg, m, G, Y, hi, hne⟩ := h
  have hkl := sti_keys hg.sto.ord hg.kys hi hne
  have hsort : sortK (keysV L) = keysV L := sortK_same (rising_of (List.Pairwise.imp (fun e => by rw [e]; decide) (keys_up hg.sto.ord)) (keys_nodup hg.sto.ord))
  have C1 : Hid (∀ u, Calls Tryz.prog 120 #[.map (some m)] u fun e w' => e = .returned (.func (.func 152) #[] #[.pointer (some ⟨u.heap.size, 0, none⟩)]) ∧ w' = u.alloc (.cells #[.map (some m)] 137)) := fun u => mkeys_any _ u
  have hb1 : Below w.heap.size w (w.alloc (.cells #[.map (some m)] 137)) := (Below.refl _ _).alloc (Nat.le_refl _) _
  obtain ⟨K, hK⟩ : ∃ K, K = keysV L := ⟨_, rfl⟩
  have C2 : Hid (Calls Tryz.prog 119 #[.func (.func 152) #[] #[.pointer (some ⟨w.heap.size, 0, none⟩)], .func (.func 121) #[] #[]] (w.alloc (.cells #[.map (some m)] 137)) fun e w' => (∃ a' cap', e = .returned (.slice a' K.length cap') ∧ KeysAt w' a' K ∧ K.length ≤ cap') ∧ Below w.heap.size w w') := by
    have := sortedf_any w.heap.size m (keysV L).length (keysV L) _ (by simp) (Boxed.new w 137 _).cell (((hi.past hb1).map).kset hkl) (by have := hg.few; omega) hkl.kys
    rw [hsort, ← hK] at this
    refine this.mono ?_
    rintro e w' ⟨h1, h2⟩
    exact ⟨h1, hb1.trans (h2.mono (by simp))⟩
  have q0 := hi.c0
  rw [← hK]
  clear hi hne hg hkl hsort hb1 hK
  go_enter Tryz.func79, Tryz.ntmps79
  go_wp2_with (first | (go_at_call 120; refine (C1.out _).mono ?_; rintro e w1 ⟨rfl, rfl⟩; clear C1) | (go_at_call 119; refine C2.out.mono ?_; rintro e w2 ⟨⟨a', cap', rfl, hka, hle⟩, hb2⟩; have HE : Hid ((∃ a'' cap'', Ending.returned (.slice a' K.length cap') = Ending.returned (.slice a'' K.length cap'') ∧ KeysAt w2 a'' K ∧ K.length ≤ cap'') ∧ Below w.heap.size w w2) := ⟨⟨a', cap', rfl, hka, hle⟩, hb2⟩; clear hka hle hb2))
  go_ret
  exact HE.out
end Go.Proofs.YtileidbdmpeciaaGreat
