/-
  What package store answers and leaves: Apply, Keys.
  What package store answers and leaves: Trim.
-/
import Derived.Test.YtileidbdmpeciaaGreatStoC4
import Derived.Test.YtileidbdmpeciaaGreatAu88
namespace Go.Proofs.YtileidbdmpeciaaGreat
open Go.RowKit
set_option linter.unusedVariables false

theorem WrtAt.kept {u u' : World} {b o : Nat} {W : Wrt} (h : WrtAt u b o W) (hk : u'.heap[b]? = u.heap[b]?) : WrtAt u' b o W :=
  ⟨lies_of fun j v hj => (cell_kept hk _).trans (h.lies.at j v hj)⟩
theorem WrtsAt.kept {u u' : World} {a : Option Addr} {l : List Wrt} (h : WrtsAt u a l) (hk : ∀ b o, a = some ⟨b, o, none⟩ → b < u.heap.size → u'.heap[b]? = u.heap[b]?) : WrtsAt u' a l :=
  ⟨h.cells.imp id (fun ⟨b, o, e, hc⟩ => ⟨b, o, e, fun i W hW => (hc i W hW).kept (hk b o e ((hc i W hW).lt (h.oks W (List.mem_of_getElem? hW)).key))⟩), h.oks⟩
/-- A list that lies in none of X's blocks. -/
def Far (a : Option Addr) (X : Foot) : Prop := ∀ b o, a = some ⟨b, o, none⟩ → ¬ X b
theorem one_put {L : List Ver} (h : OrdK L) (V : Ver) : updL (oneV L) V.k (putV (oneV L V.k) (bare V)).2 = oneV (putV L V).2 := by
  funext x
  by_cases e : x = V.k
  · subst e; rw [updL_same, put_own h]
  · rw [updL_other e, put_other h V x e]
/-- One write of many that are well. -/
theorem sputd_any (p : Nat) (L : List Ver) (X : Foot) (V : Ver) (hV : VerIn (bare V)) (hk : Ky V.k) (w : World) (h : StD w p L X) (h0 : (putV L V).1 = 0) (hg' : StoG (putV L V).2) :
    Calls Tryz.prog 99 #[.pointer (some ⟨p, 0, none⟩), kv V.k, cvv (bare V)] w fun e w' => e = .returned (.tuple #[]) ∧ ∃ X', StD w' p (putV L V).2 X' ∧ Did w w' X X' := by
  obtain ⟨hg, m, G, Y, hi, hne⟩ := h
  have hkl := sti_keys hg.sto.ord hg.kys hi hne
  refine (sput_any p (oneV L) X m G Y (keysV L) V.k hk (bare V) hV w hi hkl (by have := hg.few; omega)).mono ?_
  rintro e w' ⟨rfl, X', G', Y', j1, j2, j3, j4⟩
  rw [one_put hg.sto.ord V] at j1
  refine ⟨rfl, X', ⟨hg', m, G', Y', j1, fun k g hky hgk => ?_⟩, j2⟩
  by_cases e : k = V.k
  · subst e
    rw [put_own hg.sto.ord]
    intro hn
    have := put_grows (L := oneV L V.k) (V := bare V) (by rw [← put_code]; exact h0)
    rw [hn] at this
    simp at this
  · rw [j4 k e] at hgk
    rw [put_other hg.sto.ord V k e]
    exact hne k g hky hgk
theorem puts_take {t n : Int} {l : List Wrt} {L : List Ver} {i : Nat} {W : Wrt} (h : l[i]? = some W) : putsW t n (l.take (i + 1)) L = (putV (putsW t n (l.take i) L) (verW t n W)).2 := by
  unfold putsW
  rw [List.take_add_one, h]
  simp [List.foldl_append]
theorem any_take {α : Type} {p : α → Bool} {l : List α} (h : l.any p = false) (i : Nat) : (l.take i).any p = false := by
  rw [List.any_eq_false] at h ⊢
  exact fun x hx => h x (List.mem_of_mem_take hx)
/-- Writes that are well, one by one: each beginning of them is a store. -/
theorem puts_facts2 {t n : Int} {L : List Ver} {l : List Wrt} (hL : StoG L) (hn : 0 ≤ n ∧ n ≤ 255) (ht : okS t) (hm : mayW l 1 = true) (hw : anyWr L t n l = false) (hf : anyFu L l = false) (hk : (keysV L).length + newW L l ≤ 200) (hb : ∀ W ∈ l, Ky W.k ∧ ∀ z ∈ W.v, 0 ≤ z ∧ z ≤ 255) (i : Nat) :
    StoG (putsW t n (l.take i) L) ∧ ∀ W, l[i]? = some W → (putV (putsW t n (l.take i) L) (verW t n W)).1 = 0 := by
  obtain ⟨m1, m2, _⟩ := may_w (n := n) ht hm
  have hs := puts_sto (t := t) hn (l.take i) L hL.sto hL.kys (fun W hW => hb W (List.mem_of_mem_take hW))
  have hkeys := keys_puts (t := t) (n := n) (l.take i) L hL.sto.ord (fun W hW => m1 W (List.mem_of_mem_take hW)) (List.Pairwise.sublist (List.take_sublist i l) m2) (any_take hw i) (any_take hf i)
  have hnew : newW L (l.take i) ≤ newW L l := by
    unfold newW
    exact (List.Sublist.filter _ (List.take_sublist i l)).length_le
  refine ⟨⟨hs.1, hs.2, by omega⟩, fun W hW => ?_⟩
  have hWl := List.mem_of_getElem? hW
  have hpre : ∀ (r : List Wrt) (M : List Ver), OrdK M → (∀ X ∈ r, X.k ≠ W.k) → clashV (putsW t n r M) (verW t n W) = clashV M (verW t n W) ∧ kMany (putsW t n r M) W.k = kMany M W.k := by
    intro r
    induction r with
    | nil => intro M _ _; exact ⟨rfl, rfl⟩
    | cons X r ih =>
      intro M hM hr
      have hne : (verW t n W).k ≠ (verW t n X).k := Ne.symm (hr X (by simp))
      obtain ⟨i1, i2⟩ := ih (putV M (verW t n X)).2 (ord_put hM _) (fun Z hZ => hr Z (by simp [hZ]))
      exact ⟨i1.trans (clash_else hM _ _ hne), i2.trans (many_else hM _ hne)⟩
  have hdist : ∀ X ∈ l.take i, X.k ≠ W.k := fun X hX => by
    obtain ⟨j, hj, e⟩ := List.getElem_of_mem hX
    have hji : j < i := by rw [List.length_take] at hj; omega
    have hil := (List.getElem?_eq_some_iff.1 hW).1
    have h1 := List.pairwise_iff_getElem.1 m2 j i (by omega) hil hji
    rw [List.getElem_take] at e
    rw [e] at h1
    have : l[i] = W := (List.getElem?_eq_some_iff.1 hW).2
    rw [this] at h1
    exact h1
  obtain ⟨e1, e2⟩ := hpre (l.take i) L hL.sto.ord hdist
  rw [put_code_is (m1 W hWl), e1]
  have hc : clashV L (verW t n W) = false := by
    have := List.any_eq_false.1 hw W hWl
    simpa using this
  have hf2 : ¬ 50 ≤ kMany L W.k := by
    have := List.any_eq_false.1 hf W hWl
    simpa using this
  have e3 : kMany (putsW t n (l.take i) L) (verW t n W).k = kMany L W.k := e2
  rw [if_neg (by rw [hc]; simp), e3, if_neg hf2]
/-- What Apply's rounds hold. -/
structure ApR (W0 u : World) (p : Nat) (L : List Ver) (X : Foot) : Prop where
  st : ∃ X', StD u p L X' ∧ Did W0 u X X'
theorem ApR.box {W0 u : World} {p : Nat} {L : List Ver} {X : Foot} (h : ApR W0 u p L X) {b : Nat} (hb : b < W0.heap.size) (hX : ¬ X b) : u.heap[b]? = W0.heap[b]? := by
  obtain ⟨X', _, d⟩ := h.st
  exact d.chg.block b hb hX
theorem ApR.past {W0 u u' : World} {p : Nat} {L : List Ver} {X : Foot} (h : ApR W0 u p L X) (hb : Below u.heap.size u u') : ApR W0 u' p L X := by
  obtain ⟨X', h1, d⟩ := h.st
  exact ⟨X', h1.past hb, d.trans (Did.stay hb h1.lt)⟩
set_option maxHeartbeats 4000000 in
set_option maxRecDepth 4000 in
theorem sapply_any (p : Nat) (L : List Ver) (X : Foot) (t n : Int) (hn : 0 ≤ n ∧ n ≤ 255) (a : Option Addr) (N cap : Nat) (l : List Wrt) (w : World) (h : StD w p L X) (hl : l.length = N) (hc : N ≤ cap) (hN : N ≤ 1000000) (hat : WrtsAt w a l) (hfar : l ≠ [] → Far a X) :
    Calls Tryz.prog 50 #[.pointer (some ⟨p, 0, none⟩), .agg #[.int .i64 t, .int .u8 n], .slice a N cap] w fun e w' => e = .returned (.int .i64 (applyV L t n l).1) ∧ ∃ X', StD w' p (applyV L t n l).2 X' ∧ Did w w' X X' := by
  have hg := h.1
  rw [apply_is hg.sto.ord]
  obtain ⟨W0, hW0⟩ : ∃ u, u = w.alloc (.cells #[.int .i64 t, .int .u8 n] 28) := ⟨_, rfl⟩
  have HB0 : Hid (Below w.heap.size w W0) := by rw [hW0]; exact (Below.refl _ _).alloc (Nat.le_refl _) _
  have hs0 : W0.heap.size = w.heap.size + 1 := by rw [hW0]; simp
  have hX0 : ¬ X w.heap.size := fun x => by have := h.lt _ x; omega
  have kt : ∀ o, W0.cell? ⟨w.heap.size, o, none⟩ = (#[.int .i64 t, .int .u8 n] : Array Value)[o]? := fun o => by rw [hW0]; exact World.cell?_alloc_new _ _ _ _
  have FT : Hid (∀ u, Below W0.heap.size W0 u → u.cell? ⟨w.heap.size, 0, none⟩ = some (.int .i64 t) ∧ u.cell? ⟨w.heap.size, 1, none⟩ = some (.int .u8 n)) := fun u hb => ⟨(hb.cell (p := ⟨w.heap.size, 0, none⟩) (by show w.heap.size < _; omega)).trans (kt 0), (hb.cell (p := ⟨w.heap.size, 1, none⟩) (by show w.heap.size < _; omega)).trans (kt 1)⟩
  have HW0 : Hid (w.alloc (.cells #[.int .i64 t, .int .u8 n] 28) = W0) := hW0.symm
  have HST : Hid (∀ u, Below W0.heap.size W0 u → ApR W0 u p L X) := fun u hb => ⟨X, (h.past HB0.out).past hb, Did.stay hb (h.past HB0.out).lt⟩
  have HSAME : Hid (∀ u, Below W0.heap.size W0 u → ∃ X', StD u p L X' ∧ Did w u X X') := fun u hb => ⟨X, (h.past HB0.out).past hb, (Did.stay HB0.out h.lt).trans (Did.stay hb (h.past HB0.out).lt)⟩
  have CG0 : ∀ u, Calls Tryz.prog 47 #[.agg #[.int .i64 t, .int .u8 n]] u fun e w' => e = .returned (.bool (decide (okS t))) ∧ Below u.heap.size u w' := fun u => sgood_any t n u
  have CM0 : ∀ u, Below W0.heap.size W0 u → Calls Tryz.prog 82 #[.slice a N cap] u fun e w' => e = .returned (.bool (mayW l 1)) ∧ Below u.heap.size u w' := fun u hb => sgoods_any a N cap l u hl hc hN ((hat.past HB0.out).past hb)
  have CW0 : ∀ u, Below W0.heap.size W0 u → Calls Tryz.prog 96 #[.pointer (some ⟨p, 0, none⟩), .agg #[.int .i64 t, .int .u8 n], .slice a N cap] u fun e w' => e = .returned (.bool (anyWr L t n l)) ∧ Below u.heap.size u w' := fun u hb => swritten_any p L X t n a N cap l u ((h.past HB0.out).past hb) hl hc hN ((hat.past HB0.out).past hb)
  have CF0 : ∀ u, Below W0.heap.size W0 u → Calls Tryz.prog 97 #[.pointer (some ⟨p, 0, none⟩), .slice a N cap] u fun e w' => e = .returned (.bool (anyFu L l)) ∧ Below u.heap.size u w' := fun u hb => sfull_any p L X a N cap l u ((h.past HB0.out).past hb) hl hc hN ((hat.past HB0.out).past hb)
  have CC0 : ∀ u, Below W0.heap.size W0 u → Calls Tryz.prog 98 #[.pointer (some ⟨p, 0, none⟩), .slice a N cap] u fun e w' => e = .returned (.int .i64 (newW L l : Nat)) ∧ Below u.heap.size u w' := fun u hb => scount_any p L X a N cap l u ((h.past HB0.out).past hb) hl hc hN ((hat.past HB0.out).past hb)
  obtain ⟨y0, y1⟩ := FT.out W0 (Below.refl _ _)
  by_cases hok : okS t
  rotate_left
  · rw [decide_eq_false hok, Bool.false_and, if_pos rfl]
    rw [decide_eq_false hok] at CG0
    have CG : Hid (∀ u, Calls Tryz.prog 47 #[.agg #[.int .i64 t, .int .u8 n]] u fun e w' => e = .returned (.bool false) ∧ Below u.heap.size u w') := CG0
    clear h hat hg hW0 hs0 hX0 kt CM0 CW0 CF0 CC0 CG0 hfar hok
    go_enter Tryz.func50, Tryz.ntmps50
    go_wp2_with (first | (go_at_call 47; rw [HW0.out]; refine (CG.out _).mono ?_; rintro e w1 ⟨rfl, hb1⟩; have HB1 : Hid (Below W0.heap.size W0 w1) := hb1; clear hb1))
    go_ret
    exact ⟨rfl, HSAME.out _ HB1.out⟩
  rw [decide_eq_true hok, Bool.true_and]
  rw [decide_eq_true hok] at CG0
  have CG : Hid (∀ u, Calls Tryz.prog 47 #[.agg #[.int .i64 t, .int .u8 n]] u fun e w' => e = .returned (.bool true) ∧ Below u.heap.size u w') := CG0
  cases hmay : mayW l 1 with
  | false =>
    rw [if_pos rfl]
    rw [hmay] at CM0
    have CM : Hid (∀ u, Below W0.heap.size W0 u → Calls Tryz.prog 82 #[.slice a N cap] u fun e w' => e = .returned (.bool false) ∧ Below u.heap.size u w') := CM0
    clear h hat hg hW0 hs0 hX0 kt CM0 CW0 CF0 CC0 CG0 hfar hok hmay
    go_enter Tryz.func50, Tryz.ntmps50
    go_wp2_with (first | (go_at_call 47; rw [HW0.out]; refine (CG.out _).mono ?_; rintro e w1 ⟨rfl, hb1⟩; have HB1 : Hid (Below W0.heap.size W0 w1) := hb1; clear hb1) | (go_at_call 82; refine (CM.out _ HB1.out).mono ?_; rintro e w2 ⟨rfl, hb2⟩; have HB2 : Hid (Below W0.heap.size W0 w2) := HB1.out.trans (hb2.mono HB1.out.size); clear hb2))
    go_ret
    exact ⟨rfl, HSAME.out _ HB2.out⟩
  | true =>
    rw [if_neg (by simp)]
    rw [hmay] at CM0
    have CM : Hid (∀ u, Below W0.heap.size W0 u → Calls Tryz.prog 82 #[.slice a N cap] u fun e w' => e = .returned (.bool true) ∧ Below u.heap.size u w') := CM0
    cases hwr : anyWr L t n l with
    | true =>
      rw [if_pos rfl]
      rw [hwr] at CW0
      have CW : Hid (∀ u, Below W0.heap.size W0 u → Calls Tryz.prog 96 #[.pointer (some ⟨p, 0, none⟩), .agg #[.int .i64 t, .int .u8 n], .slice a N cap] u fun e w' => e = .returned (.bool true) ∧ Below u.heap.size u w') := CW0
      clear h hat hg hW0 hs0 hX0 kt CM0 CW0 CF0 CC0 CG0 hfar hok hmay hwr
      go_enter Tryz.func50, Tryz.ntmps50
      go_wp2_with (first | (go_at_call 47; rw [HW0.out]; refine (CG.out _).mono ?_; rintro e w1 ⟨rfl, hb1⟩; have HB1 : Hid (Below W0.heap.size W0 w1) := hb1; clear hb1) | (go_at_call 82; refine (CM.out _ HB1.out).mono ?_; rintro e w2 ⟨rfl, hb2⟩; have HB2 : Hid (Below W0.heap.size W0 w2) := HB1.out.trans (hb2.mono HB1.out.size); obtain ⟨x0, x1⟩ := FT.out w2 HB2.out; clear hb2) | (go_at_call 96; refine (CW.out _ HB2.out).mono ?_; rintro e w3 ⟨rfl, hb3⟩; have HB3 : Hid (Below W0.heap.size W0 w3) := HB2.out.trans (hb3.mono HB2.out.size); clear hb3))
      go_ret
      exact ⟨rfl, HSAME.out _ HB3.out⟩
    | false =>
      rw [if_neg (by simp)]
      rw [hwr] at CW0
      have CW : Hid (∀ u, Below W0.heap.size W0 u → Calls Tryz.prog 96 #[.pointer (some ⟨p, 0, none⟩), .agg #[.int .i64 t, .int .u8 n], .slice a N cap] u fun e w' => e = .returned (.bool false) ∧ Below u.heap.size u w') := CW0
      cases hfu : anyFu L l with
      | true =>
        rw [Bool.true_or, if_pos rfl]
        rw [hfu] at CF0
        have CF : Hid (∀ u, Below W0.heap.size W0 u → Calls Tryz.prog 97 #[.pointer (some ⟨p, 0, none⟩), .slice a N cap] u fun e w' => e = .returned (.bool true) ∧ Below u.heap.size u w') := CF0
        clear h hat hg hW0 hs0 hX0 kt CM0 CW0 CF0 CC0 CG0 hfar hok hmay hwr hfu
        go_enter Tryz.func50, Tryz.ntmps50
        go_wp2_with (first | (go_at_call 47; rw [HW0.out]; refine (CG.out _).mono ?_; rintro e w1 ⟨rfl, hb1⟩; have HB1 : Hid (Below W0.heap.size W0 w1) := hb1; clear hb1) | (go_at_call 82; refine (CM.out _ HB1.out).mono ?_; rintro e w2 ⟨rfl, hb2⟩; have HB2 : Hid (Below W0.heap.size W0 w2) := HB1.out.trans (hb2.mono HB1.out.size); obtain ⟨x0, x1⟩ := FT.out w2 HB2.out; clear hb2) | (go_at_call 96; refine (CW.out _ HB2.out).mono ?_; rintro e w3 ⟨rfl, hb3⟩; have HB3 : Hid (Below W0.heap.size W0 w3) := HB2.out.trans (hb3.mono HB2.out.size); clear hb3) | (go_at_call 97; refine (CF.out _ HB3.out).mono ?_; rintro e w4 ⟨rfl, hb4⟩; have HB4 : Hid (Below W0.heap.size W0 w4) := HB3.out.trans (hb4.mono HB3.out.size); clear hb4))
        go_ret
        exact ⟨rfl, HSAME.out _ HB4.out⟩
      | false =>
        rw [Bool.false_or]
        rw [hfu] at CF0
        have CF : Hid (∀ u, Below W0.heap.size W0 u → Calls Tryz.prog 97 #[.pointer (some ⟨p, 0, none⟩), .slice a N cap] u fun e w' => e = .returned (.bool false) ∧ Below u.heap.size u w') := CF0
        have hnl := new_le L l
        rw [hl] at hnl
        obtain ⟨Q, hQ⟩ : ∃ Q, Q = newW L l := ⟨_, rfl⟩
        obtain ⟨M, hM⟩ : ∃ M, M = (keysV L).length := ⟨_, rfl⟩
        have hfew := hg.few
        rw [← hQ] at CC0 hnl
        rw [← hM] at hfew
        have CC : Hid (∀ u, Below W0.heap.size W0 u → Calls Tryz.prog 98 #[.pointer (some ⟨p, 0, none⟩), .slice a N cap] u fun e w' => e = .returned (.int .i64 (Q : Nat)) ∧ Below u.heap.size u w') := CC0
        obtain ⟨m, HMC, HLEN⟩ : ∃ m, Hid (∀ u, Below W0.heap.size W0 u → u.cell? ⟨p, 0, none⟩ = some (.map (some m))) ∧ Hid (∀ u, Below W0.heap.size W0 u → ∀ ty, (Builtin.len_ #[137] ty #[.map (some m)]).run Tryz.prog u = .ok (.int .i64 (M : Nat)) u) := by
          obtain ⟨_, m, G, Y, hi, hne⟩ := h
          have hkl := sti_keys hg.sto.ord hg.kys hi hne
          refine ⟨m, fun u hb => ((hi.past HB0.out).past hb).c0, fun u hb ty => ?_⟩
          rw [hM]
          exact ((hi.past HB0.out).past hb).map.len hkl Tryz.underlying137 ty
        have hnn : N ≤ 1000000 := hN
        rw [← hQ, ← hM]
        by_cases h200 : 200 < M + Q
        · rw [decide_eq_true h200, if_pos rfl]
          have d1 : (200 : Int) < (M : Int) + (Q : Int) := by omega
          clear h hat hg hW0 hs0 hX0 kt CM0 CW0 CF0 CC0 CG0 hfar hok hmay hwr hfu hQ hM
          go_enter Tryz.func50, Tryz.ntmps50
          go_wp2_with (first | (go_at_call 47; rw [HW0.out]; refine (CG.out _).mono ?_; rintro e w1 ⟨rfl, hb1⟩; have HB1 : Hid (Below W0.heap.size W0 w1) := hb1; clear hb1) | (go_at_call 82; refine (CM.out _ HB1.out).mono ?_; rintro e w2 ⟨rfl, hb2⟩; have HB2 : Hid (Below W0.heap.size W0 w2) := HB1.out.trans (hb2.mono HB1.out.size); obtain ⟨x0, x1⟩ := FT.out w2 HB2.out; clear hb2) | (go_at_call 96; refine (CW.out _ HB2.out).mono ?_; rintro e w3 ⟨rfl, hb3⟩; have HB3 : Hid (Below W0.heap.size W0 w3) := HB2.out.trans (hb3.mono HB2.out.size); clear hb3) | (go_at_call 97; refine (CF.out _ HB3.out).mono ?_; rintro e w4 ⟨rfl, hb4⟩; have HB4 : Hid (Below W0.heap.size W0 w4) := HB3.out.trans (hb4.mono HB3.out.size); have q4 := HMC.out w4 HB4.out; have hl4 := HLEN.out w4 HB4.out; clear hb4) | ((with_reducible show wpList _ _ _ (Oper.mk (some 29) _ _ _ _ _ :: _) _ _); refine wpList_len_is 29 (by rfl) (by rfl) _ 137 (by rfl) m _ (by rfl) hl4 ?_) | (go_at_call 98; refine (CC.out _ HB4.out).mono ?_; rintro e w5 ⟨rfl, hb5⟩; have HB5 : Hid (Below W0.heap.size W0 w5) := HB4.out.trans (hb5.mono HB4.out.size); clear hb5 q4 hl4))
          go_ret
          exact ⟨rfl, HSAME.out _ HB5.out⟩
        · rw [decide_eq_false h200, if_neg (by simp)]
          have d1 : ¬ (200 : Int) < (M : Int) + (Q : Int) := by omega
          have hbs : ∀ W ∈ l, Ky W.k ∧ ∀ z ∈ W.v, 0 ≤ z ∧ z ≤ 255 := fun W hW => ⟨(hat.oks W hW).key, (hat.oks W hW).val⟩
          have HPF : Hid (∀ i, StoG (putsW t n (l.take i) L) ∧ ∀ W, l[i]? = some W → (putV (putsW t n (l.take i) L) (verW t n W)).1 = 0) := fun i => puts_facts2 hg hn hok hmay hwr hfu (by rw [← hQ, ← hM]; omega) hbs i
          have HL : Hid (l.length = N) := hl
          have HA : Hid (∀ u q, ApR W0 u p q X → WrtsAt u a l) := fun u q hu => by
            by_cases hl0 : l = []
            · exact ⟨.inl hl0, hat.oks⟩
            · exact (hat.past HB0.out).kept (fun b o e hb => hu.box hb (hfar hl0 b o e))
          have FT2 : Hid (∀ u q, ApR W0 u p q X → u.cell? ⟨w.heap.size, 0, none⟩ = some (.int .i64 t) ∧ u.cell? ⟨w.heap.size, 1, none⟩ = some (.int .u8 n)) := fun u q hu => by
            have hk := hu.box (b := w.heap.size) (by omega) hX0
            exact ⟨(cell_kept hk 0).trans (kt 0), (cell_kept hk 1).trans (kt 1)⟩
          have hti : -9223372036854775808 ≤ t ∧ t ≤ 9223372036854775807 := by unfold okS at hok; omega
          have HCP : Hid (∀ i W, l[i]? = some W → ∀ u, ApR W0 u p (putsW t n (l.take i) L) X → Calls Tryz.prog 99 #[.pointer (some ⟨p, 0, none⟩), kv W.k, .agg #[.int .i64 t, .int .u8 n, .string (strOfNums W.v), .bool W.g]] u fun e w' => e = .returned (.tuple #[]) ∧ ApR W0 w' p (putsW t n (l.take (i + 1)) L) X) := fun i W hW u hu => by
            obtain ⟨X', hs, hd⟩ := hu.st
            obtain ⟨f1, f2⟩ := HPF.out i
            have hwo := hat.oks W (List.mem_of_getElem? hW)
            have hg2 := (HPF.out (i + 1)).1
            rw [puts_take hW] at hg2 ⊢
            refine (sputd_any p _ X' (verW t n W) ⟨rfl, hti, hn, hwo.val, hwo.few⟩ hwo.key u hs (f2 W hW) hg2).mono ?_
            rintro e w' ⟨rfl, X2, k1, k2⟩
            exact ⟨rfl, X2, k1, hd.trans k2⟩
          have HEND : Hid (∀ u, ApR W0 u p (putsW t n (l.take N) L) X → ∃ X', StD u p (putsW t n l L) X' ∧ Did w u X X') := fun u hu => by
            obtain ⟨X', hs, hd⟩ := hu.st
            rw [List.take_of_length_le (by rw [hl]; exact Nat.le_refl _)] at hs
            exact ⟨X', hs, (Did.stay HB0.out h.lt).trans hd⟩
          have HOK : Hid (∀ W ∈ l, WrtOk W) := hat.oks
          clear h hat hg hW0 hs0 hX0 kt CM0 CW0 CF0 CC0 CG0 hfar hok hmay hwr hfu hQ hM hbs HPF hti HSAME
          go_enter Tryz.func50, Tryz.ntmps50
          go_wp2_with (first | (go_at_call 47; rw [HW0.out]; refine (CG.out _).mono ?_; rintro e w1 ⟨rfl, hb1⟩; have HB1 : Hid (Below W0.heap.size W0 w1) := hb1; clear hb1) | (go_at_call 82; refine (CM.out _ HB1.out).mono ?_; rintro e w2 ⟨rfl, hb2⟩; have HB2 : Hid (Below W0.heap.size W0 w2) := HB1.out.trans (hb2.mono HB1.out.size); obtain ⟨x0, x1⟩ := FT.out w2 HB2.out; clear hb2) | (go_at_call 96; refine (CW.out _ HB2.out).mono ?_; rintro e w3 ⟨rfl, hb3⟩; have HB3 : Hid (Below W0.heap.size W0 w3) := HB2.out.trans (hb3.mono HB2.out.size); clear hb3 x0 x1) | (go_at_call 97; refine (CF.out _ HB3.out).mono ?_; rintro e w4 ⟨rfl, hb4⟩; have HB4 : Hid (Below W0.heap.size W0 w4) := HB3.out.trans (hb4.mono HB3.out.size); have q4 := HMC.out w4 HB4.out; have hl4 := HLEN.out w4 HB4.out; clear hb4) | ((with_reducible show wpList _ _ _ (Oper.mk (some 29) _ _ _ _ _ :: _) _ _); refine wpList_len_is 29 (by rfl) (by rfl) _ 137 (by rfl) m _ (by rfl) hl4 ?_) | (go_at_call 98; refine (CC.out _ HB4.out).mono ?_; rintro e w5 ⟨rfl, hb5⟩; have HB5 : Hid (Below W0.heap.size W0 w5) := HB4.out.trans (hb5.mono HB4.out.size); clear hb5 q4 hl4))
          clear CG CM CW CF CC HMC HLEN HB1 HB2 HB3 HB4 d1 y0 y1 FT
          go_loopw [38] (fun iv wr => ∃ i : Nat, i ≤ N ∧ iv = .int .i64 i ∧ Hid (ApR W0 wr p (putsW t n (l.take i) L) X)) (fun iv _ => N - (intOf iv).toNat)
          case atStart => exact ⟨0, Nat.zero_le _, rfl, HST.out _ HB5.out⟩
          case round =>
            obtain ⟨i, hi, rfl, HS⟩ := hrel
            have hi0 : (0 : Int) ≤ (i : Int) := by omega
            by_cases hlt : i < N
            · have h1 : (i : Int) < (N : Int) := by omega
              obtain ⟨W, hW⟩ : ∃ W, l[i]? = some W := ⟨_, List.getElem?_eq_getElem (by rw [HL.out]; exact hlt)⟩
              obtain ⟨b, o, rfl, hwa, hwo⟩ := (HA.out wr _ HS.out).wrt hW
              have HWA : Hid (WrtAt wr b (o + i * 18) W) := hwa
              have KW : Hid (Ky W.k) := hwo.key
              have CP : Hid (∀ u, ApR W0 u p (putsW t n (l.take i) L) X → Calls Tryz.prog 99 #[.pointer (some ⟨p, 0, none⟩), kv W.k, .agg #[.int .i64 t, .int .u8 n, .string (strOfNums W.v), .bool W.g]] u fun e w' => e = .returned (.tuple #[]) ∧ ApR W0 w' p (putsW t n (l.take (i + 1)) L) X) := fun u hu => HCP.out i W hW u hu
              have hmine := WrtMine.made wr 80 zeroW zeroW_ky
              obtain ⟨hk1, hb1, hz1⟩ := laid_wrt wr 80 (W := W) hwo.key
              rw [zeroW_cells] at hmine hk1 hb1 hz1
              have HMI : Hid _ := hmine
              have HK1 : Hid _ := hk1
              have H1 : Hid (ApR W0 _ p (putsW t n (l.take i) L) X) := HS.out.past hb1
              clear hmine hk1 hb1 hz1 hwa hwo hW
              obtain ⟨K1, hK1⟩ : ∃ x, x = W.k := ⟨_, rfl⟩
              obtain ⟨S1, hS1⟩ : ∃ x, x = strOfNums W.v := ⟨_, rfl⟩
              obtain ⟨G1, hG1⟩ : ∃ x, x = W.g := ⟨_, rfl⟩
              have HWW : Hid (K1 = W.k ∧ S1 = strOfNums W.v ∧ G1 = W.g) := ⟨hK1, hS1, hG1⟩
              rw [← hK1, ← hS1, ← hG1] at CP
              clear hK1 hS1 hG1
              go_wp2_with (first | (have hgo := HWA.out; clear hgo; refine wpList_load_wrt 41 (by rfl) (by rfl) _ (by rfl) b (o + i * 18) (by rfl) W KW.out HWA.out ?_) | (have hgo := HMI.out; clear hgo; refine wpList_store_wrt (.tmp 8) (by rfl) _ (by rfl) wr.heap.size 0 zeroW W (by rfl) (by rfl) KW.out HMI.out ?_; intro u2 hu; rw [← hu] at HK1 H1; have HKA : Hid (KeyAt u2 wr.heap.size 0 K1) := (by rw [HWW.out.1]; exact HK1.out.at_.key KW.out); have hc := HK1.out.at_.c0 KW.out; rw [← HWW.out.2.1, ← HWW.out.2.2] at hc; obtain ⟨v0, v1⟩ := hc; obtain ⟨x0, x1⟩ := FT2.out u2 _ H1.out; clear hu HMI HWA) | (have hgo := HKA.out; clear hgo; refine wpList_load_keyD 44 (by rfl) (by rfl) _ (by rfl) wr.heap.size 0 (by rfl) K1 (by rw [HWW.out.1]; exact KW.out) HKA.out ?_) | (go_at_call 99; refine (CP.out _ H1.out).mono ?_; rintro e w3 ⟨rfl, h3⟩; have H3 : Hid (ApR W0 w3 p (putsW t n (l.take (i + 1)) L) X) := h3; clear h3 v0 v1 x0 x1))
              go_roundw
              case rel => exact ⟨i + 1, by omega, by go_num, H3⟩
              case measure => simp [intOf]; omega
            · obtain rfl : i = N := by omega
              go_wp2
              go_ret
              exact ⟨rfl, HEND.out _ HS.out⟩
set_option maxHeartbeats 1000000 in
theorem skeys_any (p : Nat) (L : List Ver) (X : Foot) (w : World) (h : StD w p L X) :
    Calls Tryz.prog 79 #[.pointer (some ⟨p, 0, none⟩)] w fun e w' => (∃ a' cap', e = .returned (.slice a' (keysV L).length cap') ∧ KeysAt w' a' (keysV L) ∧ (keysV L).length ≤ cap') ∧ Below w.heap.size w w' := by
  obtain ⟨hg, m, G, Y, hi, hne⟩ := h
  have hkl := sti_keys hg.sto.ord hg.kys hi hne
  have hsort : sortK (keysV L) = keysV L := sortK_same (rising_of (List.Pairwise.imp (fun e => by rw [e]; decide) (keys_up hg.sto.ord)) (keys_nodup hg.sto.ord))
  have C1 : Hid (∀ u, Calls Tryz.prog 120 #[.map (some m)] u fun e w' => e = .returned (.func (.func 152) #[] #[.pointer (some ⟨u.heap.size, 0, none⟩)]) ∧ w' = u.alloc (.cells #[.map (some m)] 137)) := fun u => mkeys_any _ u
  have hb1 : Below w.heap.size w (w.alloc (.cells #[.map (some m)] 137)) := (Below.refl _ _).alloc (Nat.le_refl _) _
  obtain ⟨K, hK⟩ : ∃ K, K = keysV L := ⟨_, rfl⟩
  have C2 : Hid (Calls Tryz.prog 119 #[.func (.func 152) #[] #[.pointer (some ⟨w.heap.size, 0, none⟩)], .func (.func 121) #[] #[]] (w.alloc (.cells #[.map (some m)] 137)) fun e w' => (∃ a' cap', e = .returned (.slice a' K.length cap') ∧ KeysAt w' a' K ∧ K.length ≤ cap') ∧ Below w.heap.size w w') := by
    have := sortedf_any w.heap.size m (keysV L).length (keysV L) _ (by simp) (Boxed.new w 137 _).cell (((hi.past hb1).map).kset hkl) (by have := hg.few; omega) hkl.kys
    rw [hsort, ← hK] at this
    refine this.mono ?_
    rintro e w' ⟨h1, h2⟩
    exact ⟨h1, hb1.trans (h2.mono (by simp))⟩
  have q0 := hi.c0
  rw [← hK]
  clear hi hne hg hkl hsort hb1 hK
  go_enter Tryz.func79, Tryz.ntmps79
  go_wp2_with (first | (go_at_call 120; refine (C1.out _).mono ?_; rintro e w1 ⟨rfl, rfl⟩; clear C1) | (go_at_call 119; refine C2.out.mono ?_; rintro e w2 ⟨⟨a', cap', rfl, hka, hle⟩, hb2⟩; have HE : Hid ((∃ a'' cap'', Ending.returned (.slice a' K.length cap') = Ending.returned (.slice a'' K.length cap'') ∧ KeysAt w2 a'' K ∧ K.length ≤ cap'') ∧ Below w.heap.size w w2) := ⟨⟨a', cap', rfl, hka, hle⟩, hb2⟩; clear hka hle hb2))
  go_ret
  exact HE.out
end Go.Proofs.YtileidbdmpeciaaGreat

namespace Go.Proofs.YtileidbdmpeciaaGreat
open Go.RowKit
set_option linter.unusedVariables false

theorem step_delete_kptr {w : World} {ops : Array Oper} {o : Oper} {a : Act} {K : Act → World → Prop} {Q : Exit → Act → World → Prop} {E : Prop} (hg : o.guard = none) (m x : Operand) (t : TypeId) (hop : o.op = Op.call { callee := Callee.builtin Builtin.delete, args := #[m, x], argTypes := #[t, 38] })
    (e : TypeId) (ht : Tryz.prog.underlying t = some (.map 38 e)) (b r : Nat) (G : List Int → Option Nat) (left : List Int → Bool) (cnt : Nat) (hm : a.eval m = .map (some b)) (h : KRange w b r G left cnt) (k : List Int) (hx : a.eval x = kv k) (hk : Ky k)
    (hK : ∀ w' cnt', KRange w' b r (putK G k none) (fun z => left z && !decide (z = k)) cnt' → cnt' ≤ cnt → w.mapTurned w' b → K (a.put o.dst (.tuple #[])) w') : if Region.wanted o (yielded ops a.tmps) = true then Oper.wp Tryz.prog o a w K Q else E := by
  have hw : Region.wanted o (yielded ops a.tmps) = true := by simp [Region.wanted, hg]
  rw [if_pos hw]
  obtain ⟨D, L, n, h1, h2, h3, h4⟩ := h
  obtain ⟨w', cnt', hrun, r1, r2, r3⟩ := h1.drop kLaw ht (kyl_mk hk) o.type
  unfold Oper.wp
  simp [execOp, hop, resolve, invoke, builtin, hm, hx, hrun, Result.andThen]
  refine hK w' cnt' ⟨_, _, n, r1, fun z hz d => ?_, fun y hy => ?_, fun z hz => ?_⟩ r2 r3
  · by_cases e : z = k
    · subst e; rw [Maps.atKey_del_same, putK_same]; rfl
    · rw [Maps.atKey_del_other (fun e' => e (kyl_inj hz hk e')), putK_other e]; exact h2 z hz d
  · by_cases e : y = kyl k
    · exact ⟨k, hk, e.symm⟩
    · rw [Maps.has_del_other e] at hy
      exact h3 y hy
  · show (left z && !decide (z = k)) = _
    rw [same_kkey hz hk, h4 z hz]
/-- The chains while a trim goes over them, in whatever order. -/
def mixT (L : List Ver) (t n : Int) (left : List Int → Bool) (k : List Int) : List Ver := if left k = true then oneV L k else restV (oneV L k) t n
def less (left : List Int → Bool) (x : List Int) : List Int → Bool := fun z => left z && !decide (z = x)
theorem less_twice (left : List Int → Bool) (x : List Int) : (fun z => less left x z && !decide (z = x)) = less left x := by
  funext z
  unfold less
  cases left z <;> cases decide (z = x) <;> rfl
theorem mix_step (L : List Ver) (t n : Int) (left : List Int → Bool) (x : List Int) (hx : left x = true) (k : List Int) : updL (mixT L t n left) x (restV (oneV L x) t n) k = mixT L t n (less left x) k := by
  by_cases e : k = x
  · subst e
    rw [updL_same]
    unfold mixT less
    simp
  · rw [updL_other e]
    unfold mixT less
    simp [e]
theorem rest_nil (t n : Int) : restV [] t n = [] := rfl
/-- How many of a key's versions a trim lets go. -/
def goN (L : List Ver) (t n : Int) (k : List Int) : Nat := (oneV L k).length - (restV (oneV L k) t n).length
/-- What a trim over the chains has reached. -/
structure TrR (W0 u : World) (p m r : Nat) (L : List Ver) (t n : Int) (X : Foot) (left : List Int → Bool) (cnt : Nat) : Prop where
  st : ∃ G X' Y, KRange u m r G left cnt ∧ StI u p (mixT L t n left) X' m G Y ∧ Did W0 u X X' ∧ ¬ X' r ∧ (∀ k g, Ky k → G k = some g → mixT L t n left k ≠ []) ∧ ∀ k, Ky k → left k = true → k ∈ keysV L
theorem TrR.left_eq {W0 u : World} {p m r cnt : Nat} {L : List Ver} {t n : Int} {X : Foot} {left : List Int → Bool} (h : TrR W0 u p m r L t n X left cnt) : u.rangeLeft m r = cnt := by
  obtain ⟨G, X', Y, h1, _⟩ := h.st
  exact h1.left_eq
theorem TrR.box {W0 u : World} {p m r cnt : Nat} {L : List Ver} {t n : Int} {X : Foot} {left : List Int → Bool} (h : TrR W0 u p m r L t n X left cnt) {b : Nat} (hb : b < W0.heap.size) (hX : ¬ X b) : u.heap[b]? = W0.heap[b]? := by
  obtain ⟨G, X', Y, _, _, d, _⟩ := h.st
  exact d.chg.block b hb hX
/-- The same, the chain at x trimmed, maybe empty. -/
structure TrM (W0 u : World) (p m r : Nat) (L : List Ver) (t n : Int) (X : Foot) (left : List Int → Bool) (cnt : Nat) (x : List Int) (G : List Int → Option Nat) : Prop where
  st : ∃ X' Y, KRange u m r G left cnt ∧ StI u p (mixT L t n left) X' m G Y ∧ Did W0 u X X' ∧ ¬ X' r ∧ (∀ k g, Ky k → k ≠ x → G k = some g → mixT L t n left k ≠ []) ∧ ∀ k, Ky k → left k = true → k ∈ keysV L
theorem TrM.past {W0 u u' : World} {p m r cnt : Nat} {L : List Ver} {t n : Int} {X : Foot} {left : List Int → Bool} {x : List Int} {G : List Int → Option Nat} (h : TrM W0 u p m r L t n X left cnt x G) (hb : Below u.heap.size u u') : TrM W0 u' p m r L t n X left cnt x G := by
  obtain ⟨X', Y, h1, h2, h3, h4, h5⟩ := h.st
  exact ⟨X', Y, h1.kept (hb.block m (h2.lt m h2.xm)) (hb.block r h1.lt), h2.past hb, h3.trans (Did.stay hb h2.lt), h4, h5⟩
theorem TrM.full {W0 u : World} {p m r cnt : Nat} {L : List Ver} {t n : Int} {X : Foot} {left : List Int → Bool} {x : List Int} {G : List Int → Option Nat} (h : TrM W0 u p m r L t n X left cnt x G) (hx : mixT L t n left x ≠ []) : TrR W0 u p m r L t n X left cnt := by
  obtain ⟨X', Y, h1, h2, h3, h4, h5, h6⟩ := h.st
  refine ⟨G, X', Y, h1, h2, h3, h4, fun k g hk hg => ?_, h6⟩
  by_cases e : k = x
  · rw [e]; exact hx
  · exact h5 k g hk e hg
theorem TrM.gone {W0 u u' : World} {p m r cnt cnt' : Nat} {L : List Ver} {t n : Int} {X : Foot} {left : List Int → Bool} {x : List Int} {G : List Int → Option Nat} (h : TrM W0 u p m r L t n X left cnt x G) (hk : Ky x) (hx : mixT L t n left x = []) (hr : KRange u' m r (putK G x none) left cnt') (ht : u.mapTurned u' m) : TrR W0 u' p m r L t n X left cnt' := by
  obtain ⟨X', Y, h1, h2, h3, h4, h5, h6⟩ := h.st
  obtain ⟨j1, j2⟩ := h2.gone hk hx ht hr.map
  refine ⟨_, X', Y, hr, j1, h3.trans j2, h4, fun k g hky hg => ?_, h6⟩
  by_cases e : k = x
  · subst e; rw [putK_same] at hg; cases hg
  · rw [putK_other e] at hg; exact h5 k g hky e hg
theorem trim_start {L : List Ver} {t n : Int} {G : List Int → Option Nat} (he : ∀ k, Ky k → G k = none → oneV L k = []) {k : List Int} (hk : Ky k) : oneV L k = mixT L t n (fun x => (G x).isSome) k := by
  unfold mixT
  cases hg : G k with
  | none => simp [he k hk hg, rest_nil]
  | some g => simp [hg]
set_option maxHeartbeats 4000000 in
set_option maxRecDepth 4000 in
theorem strim_any (p : Nat) (L : List Ver) (X : Foot) (t n : Int) (w : World) (h : StD w p L X) :
    Calls Tryz.prog 72 #[.pointer (some ⟨p, 0, none⟩), .agg #[.int .i64 t, .int .u8 n]] w fun e w' => e = .returned (.int .i64 ((L.length : Int) - ((restV L t n).length : Int))) ∧ ∃ X', StD w' p (restV L t n) X' ∧ Did w w' X X' := by
  obtain ⟨hg, m, G0, Y0, hi, hne⟩ := h
  have hkl := sti_keys hg.sto.ord hg.kys hi hne
  obtain ⟨W0, hW0⟩ : ∃ u, u = w.alloc (.cells #[.int .i64 t, .int .u8 n] 28) := ⟨_, rfl⟩
  have HB0 : Hid (Below w.heap.size w W0) := by rw [hW0]; exact (Below.refl _ _).alloc (Nat.le_refl _) _
  have hs0 : W0.heap.size = w.heap.size + 1 := by rw [hW0]; simp
  have hX0 : ¬ X w.heap.size := fun x => by have := hi.lt _ x; omega
  have kt : ∀ o, W0.cell? ⟨w.heap.size, o, none⟩ = (#[.int .i64 t, .int .u8 n] : Array Value)[o]? := fun o => by rw [hW0]; exact World.cell?_alloc_new _ _ _ _
  have HW0 : Hid (w.alloc (.cells #[.int .i64 t, .int .u8 n] 28) = W0) := hW0.symm
  have hi0 := hi.past HB0.out
  have KM : Hid (KMap W0 m G0) := hi0.map
  have q0 := hi0.c0
  rw [← HW0.out] at q0
  have HLT : Hid (∀ k, X k → k < W0.heap.size) := hi0.lt
  obtain ⟨K, hK⟩ : ∃ K, K = keysV L := ⟨_, rfl⟩
  have HSTART : Hid (∀ u cnt, KRange u m W0.heap.size G0 (fun k => (G0 k).isSome) cnt → Below W0.heap.size W0 u → TrR W0 u p m W0.heap.size L t n X (fun k => (G0 k).isSome) cnt) := fun u cnt hr hb =>
    ⟨G0, X, Y0, hr, (hi0.past hb).congr (fun k hk => trim_start hi.empty hk), Did.stay hb hi0.lt, fun x => by have := hi0.lt _ x; omega, fun k g hk hgk => by rw [← trim_start hi.empty hk]; exact hne k g hk hgk, fun k hk hl => (hkl.iff k hk).1 hl⟩
  have HT0 : Hid (turnN (goN L t n) (fun k => (G0 k).isSome) K = 0) := turn_none _ _ _ (fun k hk => by rw [hK] at hk; exact (hkl.iff k (hkl.kys k hk)).2 hk)
  have HKMEM : Hid (∀ k, k ∈ keysV L → k ∈ K) := fun k hk => by rw [hK]; exact hk
  have HKN : Hid (K.Nodup ∧ ∀ k ∈ K, Ky k) := by rw [hK]; exact ⟨hkl.nodup, hkl.kys⟩
  have HGN : Hid (∀ k, goN L t n k ≤ 50) := fun k => by
    have h1 := hg.sto.few k
    rw [← one_len] at h1
    have h2 : goN L t n k ≤ (oneV L k).length := Nat.sub_le _ _
    omega
  have HKF : Hid (K.length ≤ 200) := by rw [hK]; exact hg.few
  have HBOX : Hid (∀ u r left cnt, TrR W0 u p m r L t n X left cnt → u.cell? ⟨w.heap.size, 0, none⟩ = some (.int .i64 t) ∧ u.cell? ⟨w.heap.size, 1, none⟩ = some (.int .u8 n)) := fun u r left cnt hu => by
    have hk := hu.box (b := w.heap.size) (by omega) hX0
    exact ⟨(cell_kept hk 0).trans (kt 0), (cell_kept hk 1).trans (kt 1)⟩
  have HEND : Hid (∀ u r left cnt, TrR W0 u p m r L t n X left cnt → (∀ k, Ky k → left k = false) → (turnN (goN L t n) left K : Int) = (L.length : Int) - ((restV L t n).length : Int) ∧ ∃ X', StD u p (restV L t n) X' ∧ Did w u X X') := fun u r left cnt hu hl => by
    obtain ⟨G, X', Y, h1, h2, h3, h4, h5, h6⟩ := hu.st
    have e1 : turnN (goN L t n) left K = (K.map (goN L t n)).sum := turn_all _ _ _ (fun k hk => hl k (HKN.out.2 k hk))
    have e2 := trim_sum hg.sto.ord t n
    rw [← hK] at e2
    have e3 : (K.map (goN L t n)).sum + (restV L t n).length = L.length := e2
    have hmix : ∀ k, Ky k → mixT L t n left k = oneV (restV L t n) k := fun k hk => by unfold mixT; rw [hl k hk, rest_own hg.sto.ord]; rfl
    refine ⟨by rw [e1]; omega, X', ⟨hg.rest t n, m, G, Y, h2.congr hmix, fun k g hk hgk => by rw [← hmix k hk]; exact h5 k g hk hgk⟩, (Did.stay HB0.out hi.lt).trans h3⟩
  clear hi hne hg hkl hW0 hs0 hX0 kt hi0 hK
  go_enter Tryz.func72, Tryz.ntmps72
  go_wp2_with (first | (at_range; rw [HW0.out]; refine wpList_range_kptr rfl _ _ rfl 158 Tryz.underlying137 m G0 rfl KM.out ?_; intro w0 cnt0 hr0 hb0 hz0; have HT : Hid (TrR W0 w0 p m W0.heap.size L t n X (fun k => (G0 k).isSome) cnt0) := HSTART.out _ _ hr0 hb0; clear hr0 hb0 hz0) | go_in)
  (try go_frame)
  obtain ⟨r, hr⟩ : ∃ r, r = W0.heap.size := ⟨_, rfl⟩
  rw [← hr] at HT ⊢
  have HRX : Hid (∀ k, X k → k < r) := by rw [hr]; exact HLT.out
  have HR0 : Hid (r = W0.heap.size) := hr
  clear hr HSTART q0
  go_loopw [5] (fun cv wr => ∃ c : Nat, cv = .int .i64 c ∧ c ≤ 10000 ∧ Hid (∃ left cnt, TrR W0 wr p m r L t n X left cnt ∧ c = turnN (goN L t n) left K)) (fun _ wr => wr.rangeLeft m r)
  case atStart => exact ⟨0, rfl, by omega, ⟨_, _, HT.out, HT0.out.symm⟩⟩
  case round =>
    obtain ⟨c, rfl, hc, HI⟩ := hrel
    obtain ⟨left, cnt, htr, hcc⟩ := HI.out
    have HTR : Hid (TrR W0 wr p m r L t n X left cnt) := htr
    have HCC : Hid (c = turnN (goN L t n) left K) := hcc
    obtain ⟨G, X', Y, hrg, hst, hdid, hxr, hnn, hle⟩ := htr.st
    have HRG : Hid (KRange wr m r G left cnt) := hrg
    clear htr hcc HI
    go_wp2_with (first | (at_next; refine wpList_next_kptr rfl _ rfl m r G left cnt rfl HRG.out ?_ ?_) | go_in)
    · intro hl0
      obtain ⟨e1, e2⟩ := HEND.out _ _ _ _ HTR.out hl0
      have HE : Hid ((c : Int) = (L.length : Int) - ((restV L t n).length : Int) ∧ ∃ X', StD wr p (restV L t n) X' ∧ Did w wr X X') := ⟨by rw [HCC.out]; exact e1, e2⟩
      clear hl0 e1 e2 hrg hst hdid hxr hnn hle
      go_wp2
      go_ret
      exact ⟨by rw [← HE.out.1]; rfl, HE.out.2⟩
    · intro x g w1 cnt1 hx hlx hgx hrg1 hlt hch1 hs1 hen
      have KX : Hid (Ky x) := hx
      -- the chain at x, trimmed
      have hst1 : StI w1 p (mixT L t n left) X' m G Y := hst.kept hch1.size (fun b hb => hch1.block b (hst.lt b hb) (fun e => hxr (e ▸ hb)))
      have hd1 : Did W0 w1 X X' := ⟨hdid.chg.trans hch1 (fun j hj e => by exfalso; rw [e, HR0.out] at hj; omega), fun b hb => ⟨(hdid.new b hb).1, Nat.lt_of_lt_of_le (hdid.new b hb).2 hch1.size⟩⟩
      have hmx : mixT L t n left x = oneV L x := if_pos hlx
      have hxm := HKMEM.out x (hle x hx hlx)
      obtain ⟨D, hD⟩ : ∃ D, D = goN L t n x := ⟨_, rfl⟩
      obtain ⟨M, hM⟩ : ∃ M, M = (restV (oneV L x) t n).length := ⟨_, rfl⟩
      have hDM : ((oneV L x).length : Int) - ((restV (oneV L x) t n).length : Int) = (D : Int) := by
        have := rest_len_le (oneV L x) t n
        rw [hD]; unfold goN; omega
      have hstep := turn_step (goN L t n) left x hlx K HKN.out.1 hxm
      have HSTEP : Hid (c + D = turnN (goN L t n) (less left x) K) := by show _ = _; rw [HCC.out, hD]; exact hstep.symm
      have hcD : c + D ≤ 10000 := by
        have e2 := turn_le (goN L t n) (less left x) 50 K (fun k _ => HGN.out k)
        have e3 := HKF.out
        have e4 := HSTEP.out
        omega
      have hM50 : M ≤ 50 := by
        have h1 := rest_len_le (oneV L x) t n
        have h2 := (hst1.file x g hx hgx).chn.few
        rw [hmx] at h2
        omega
      have HTRIM : Hid (∀ u, Below w1.heap.size w1 u → (u.cell? ⟨w.heap.size, 0, none⟩ = some (.int .i64 t) ∧ u.cell? ⟨w.heap.size, 1, none⟩ = some (.int .u8 n)) ∧ Hid (Calls Tryz.prog 117 #[.pointer (some ⟨g, 0, none⟩), .agg #[.int .i64 t, .int .u8 n]] u fun e w' => e = .returned (.int .i64 (D : Nat)) ∧ TrM W0 w' p m r L t n X (less left x) cnt1 x G ∧ (∀ b, w1.heap.size ≤ b → b < u.heap.size → w'.heap[b]? = u.heap[b]?))) := fun u hb => by
        have hst2 := hst1.past hb
        have hrg2 : KRange u m r G (less left x) cnt1 := hrg1.kept (hb.block m (hst1.lt m hst1.xm)) (hb.block r hrg1.lt)
        have hd2 : Did W0 u X X' := hd1.trans (Did.stay hb hst1.lt)
        refine ⟨?_, ?_⟩
        · have hk0 : u.heap[w.heap.size]? = wr.heap[w.heap.size]? := by
            have hbl := HTR.out
            have hwr : w.heap.size < W0.heap.size := HW0.out ▸ (by simp)
            have hwl : w.heap.size < wr.heap.size := Nat.lt_of_lt_of_le hwr hdid.chg.size
            exact (hb.block w.heap.size (Nat.lt_of_lt_of_le hwl hch1.size)).trans (hch1.block w.heap.size hwl (fun e => by have := HR0.out; omega))
          obtain ⟨k0, k1⟩ := HBOX.out _ _ _ _ HTR.out
          exact ⟨(cell_kept hk0 0).trans k0, (cell_kept hk0 1).trans k1⟩
        · have hf := hst2.file x g hx hgx
          rw [hmx] at hf
          have hct := ctrim_any g (oneV L x) (Y x) t n u hf
          rw [hDM] at hct
          refine hct.mono ?_
          rintro e w' ⟨rfl, Z', hz, hdz⟩
          obtain ⟨X3, j1, j2, j3⟩ := hst2.turn hx hgx hz hdz
          refine ⟨rfl, ⟨X3, _, hrg2.kept j3 (j2.chg.block r hrg2.lt hxr), j1.congr (fun k hk => mix_step L t n left x hlx k), hd2.trans j2, fun hx3 => ?_, fun k g' hk hkx hg' => ?_, fun k hk hl => ?_⟩, fun b hb1 hb2 => hdz.chg.block b hb2 (fun y => by have := hst1.lt b (hst1.foot x b y).1; omega)⟩
          · rcases (j2.new r hx3).1 with e | e
            · exact hxr e
            · have := hrg2.lt; omega
          · rw [← mix_step L t n left x hlx k, updL_other hkx]; exact hnn k g' hk hg'
          · exact hle k hk (by unfold less at hl; simp at hl; exact hl.1)
      have HLEN : Hid (∀ u, TrM W0 u p m r L t n X (less left x) cnt1 x G → Calls Tryz.prog 118 #[.pointer (some ⟨g, 0, none⟩)] u fun e w' => e = .returned (.int .i64 (M : Nat)) ∧ Below u.heap.size u w') := fun u hu => by
        obtain ⟨X3, Y3, h1, h2, _⟩ := hu.st
        have hf := h2.file x g hx hgx
        have e1 : mixT L t n (less left x) x = restV (oneV L x) t n := by unfold mixT less; simp
        rw [e1] at hf
        rw [hM]
        exact clen_any g _ _ u hf
      have HMX : Hid (mixT L t n (less left x) x = [] ↔ M = 0) := by
        have e1 : mixT L t n (less left x) x = restV (oneV L x) t n := by unfold mixT less; simp
        show _ ↔ _
        rw [e1, hM]
        exact List.length_eq_zero_iff.symm
      have HCNT : Hid (cnt1 < cnt ∧ wr.rangeLeft m r = cnt) := ⟨hlt, HTR.out.left_eq⟩
      have HSP : Hid (w1.heap.size = w1.heap.size) := rfl
      have hmine := KeyMine.made w1 38 zeroK zeroK_ky
      obtain ⟨hk1, hb1, hz1⟩ := laid_key w1 38 hx
      rw [zero_cells] at hmine hk1 hb1 hz1
      have HMI : Hid _ := hmine
      have HK1 : Hid _ := hk1
      have HB1 : Hid _ := hb1
      clear hmine hk1 hb1 hz1 hrg hst hdid hxr hnn hle hx hlx hgx hrg1 hlt hch1 hs1 hst1 hd1 hmx hxm hD hM hDM hstep HRG HTR HCC HT
      by_cases h0 : M = 0
      · have HXE : Hid (mixT L t n (less left x) x = []) := HMX.out.2 h0
        subst h0
        go_wp2_with (first | (have hgo := HMI.out; clear hgo; refine wpList_store_keyU (by rfl) _ _ (by rfl) w1.heap.size 0 zeroK x (by rfl) (by rfl) KX.out HMI.out ?_; intro u2 hu; rw [← hu] at HK1 HB1; obtain ⟨⟨x0, x1⟩, CT⟩ := HTRIM.out u2 HB1.out; clear hu HMI) | (go_at_call 117; refine CT.out.mono ?_; rintro e w3 ⟨rfl, h3, h3b⟩; have H3 : Hid (TrM W0 w3 p m r L t n X (less left x) cnt1 x G) := h3; have HK3 : Hid (KeyAt w3 w1.heap.size 0 x) := ⟨fun i hi => (cell_kept (h3b w1.heap.size (Nat.le_refl _) HK1.out.lies.lt) _).trans (HK1.out.lies.cell i hi)⟩; clear h3 h3b x0 x1) | (go_at_call 118; refine (HLEN.out _ H3.out).mono ?_; rintro e w4 ⟨rfl, hb4⟩; have H4 : Hid (TrM W0 w4 p m r L t n X (less left x) cnt1 x G) := H3.out.past hb4; have HK4 : Hid (KeyAt w4 w1.heap.size 0 x) := HK3.out.past hb4; clear hb4))
        have FK : Hid (∀ u, Below w4.heap.size w4 u → KeyAt u w1.heap.size 0 x) := fun u hb => HK4.out.past hb
        have FC : Hid (∀ u, Below w4.heap.size w4 u → u.cell? ⟨p, 0, none⟩ = some (.map (some m))) := fun u hb => by
          obtain ⟨X3, Y3, _, h2, _⟩ := (H4.out.past hb).st
          exact h2.c0
        have FR : Hid (∀ u, Below w4.heap.size w4 u → TrM W0 u p m r L t n X (less left x) cnt1 x G ∧ KRange u m r G (less left x) cnt1) := fun u hb => by
          have hp := H4.out.past hb
          obtain ⟨X3, Y3, h1, _⟩ := hp.st
          exact ⟨hp, h1⟩
        refine wp_region_noPanic ?_
        refine region_till 5 (fun u => Below w4.heap.size w4 u) (by kernel_rfl) ?_ (fun hHeld => ?_)
        · exact (Below.refl _ _).drew
        refine till_take (i := 4) (v := kv x) 4 (by kernel_rfl) (Or.inl rfl) (by kernel_rfl) rfl (by kernel_rfl) (by kernel_rfl) (by kernel_rfl) (fun _ _ _ h => h) (yieldsIf_load_mid (by rfl) _ _ rfl _ _ rfl (x.map (Value.int .u8)) _ (fun u hu => (FK.out u hu).range KX.out) Tryz.underlying38 rfl (info_keyl x KX.out)) hHeld ?_
        change wpTill _ _ _ _ _ _ _ _ (Act.put _ (some 30) _) _
        simp only [Act.put, List.setIfInBounds_toArray, List.set_cons_zero, List.set_cons_succ]
        refine till_ready (rs := [0]) (by kernel_rfl) (by simp) ?_
        refine AllTill.cons rfl (fun K hK => ?_) AllTill.nil
        go_simp
        refine hK.out _ _ ?_ (fun hHeld2 => ?_)
        · exact hHeld
        clear hK K hHeld
        have hHeld := hHeld2
        clear hHeld2
        refine till_ready (rs := [1]) (by kernel_rfl) (by simp) ?_
        refine AllTill.cons rfl (fun K hK => ?_) AllTill.nil
        go_simp
        refine hK.out _ _ ?_ (fun hHeld2 => ?_)
        · exact hHeld
        clear hK K hHeld
        have hHeld := hHeld2
        clear hHeld2
        refine till_ready (rs := [2]) (by kernel_rfl) (by simp) ?_
        refine AllTill.cons rfl (fun K hK => ?_) AllTill.nil
        go_simp
        refine hK.out _ _ ?_ (fun hHeld2 => ?_)
        · exact hHeld
        clear hK K hHeld
        have hHeld := hHeld2
        clear hHeld2
        refine till_ready (rs := [3]) (by kernel_rfl) (by simp) ?_
        refine AllTill.cons rfl (fun K hK => ?_) AllTill.nil
        have q0 := FC.out _ hHeld; go_simp
        refine hK.out _ _ ?_ (fun hHeld2 => ?_)
        · exact hHeld
        clear hK K hHeld
        have hHeld := hHeld2
        clear hHeld2
        refine till_last (by kernel_rfl) (by kernel_rfl) rfl (fun K hK => ?_)
        refine step_delete_kptr rfl _ _ 137 rfl 158 Tryz.underlying137 m r G (less left x) cnt1 rfl (FR.out _ hHeld).2 x rfl KX.out ?_; intro w5 cnt5 hr5 hc5 ht5; rw [less_twice] at hr5; have H5 : Hid (TrR W0 w5 p m r L t n X (less left x) cnt5) := (FR.out _ hHeld).1.gone KX.out HXE.out hr5 ht5; have HC5 : Hid (cnt5 ≤ cnt1) := hc5; refine hK.out _ _ ?_; refine NoPanic.normal ?_; clear hK hHeld hr5 hc5 ht5
        go_wp2
        go_roundw
        case rel =>
          (repeat apply Exists.intro)
          refine ⟨?_, rfl⟩
          exact ⟨c + D, by go_num, hcD, ⟨_, _, H5.out, HSTEP.out⟩⟩
        case measure => rw [H5.out.left_eq, HCNT.out.2]; exact Nat.lt_of_le_of_lt HC5.out HCNT.out.1
      · have HXE : Hid (mixT L t n (less left x) x ≠ []) := fun e => h0 (HMX.out.1 e)
        have hM0 : ¬ ((M : Int) = 0) := by omega
        go_wp2_with (first | (have hgo := HMI.out; clear hgo; refine wpList_store_keyU (by rfl) _ _ (by rfl) w1.heap.size 0 zeroK x (by rfl) (by rfl) KX.out HMI.out ?_; intro u2 hu; rw [← hu] at HK1 HB1; obtain ⟨⟨x0, x1⟩, CT⟩ := HTRIM.out u2 HB1.out; clear hu HMI) | (go_at_call 117; refine CT.out.mono ?_; rintro e w3 ⟨rfl, h3, h3b⟩; have H3 : Hid (TrM W0 w3 p m r L t n X (less left x) cnt1 x G) := h3; clear h3 h3b x0 x1) | (go_at_call 118; refine (HLEN.out _ H3.out).mono ?_; rintro e w4 ⟨rfl, hb4⟩; have H4 : Hid (TrR W0 w4 p m r L t n X (less left x) cnt1) := (H3.out.past hb4).full HXE.out; clear hb4))
        go_roundw
        case rel => exact ⟨c + D, by go_num, hcD, ⟨_, _, H4.out, HSTEP.out⟩⟩
        case measure => rw [H4.out.left_eq, HCNT.out.2]; exact HCNT.out.1
end Go.Proofs.YtileidbdmpeciaaGreat

