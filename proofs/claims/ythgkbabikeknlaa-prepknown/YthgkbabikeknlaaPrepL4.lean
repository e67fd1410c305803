/-
  A landed table beside blocks that stay; what PrepKnown asks, reckoned.
-/
import Derived.Test.YthgkbabikeknlaaPrepL3
namespace Go.Proofs.Ythgkbabikeknlaa
open Go.RowKit
set_option linter.unusedVariables false

/-- A table that has come since w; the blocks of F are no part of it. -/
def PXF (w u : World) (p : Nat) (M : List EntM) (F : Foot) : Prop := ∃ X, PTab u p M X ∧ Below w.heap.size w u ∧ (∀ k, X k → w.heap.size ≤ k) ∧ ∀ k, F k → k < u.heap.size ∧ ¬ X k
theorem PX.f {w u : World} {p : Nat} {M : List EntM} (h : PX w u p M) : PXF w u p M noFoot := by obtain ⟨X, h1, h2, h3⟩ := h; exact ⟨X, h1, h2, h3, fun k hk => hk.elim⟩
theorem PXF.px {w u : World} {p : Nat} {M : List EntM} {F : Foot} (h : PXF w u p M F) : PX w u p M := by obtain ⟨X, h1, h2, h3, _⟩ := h; exact ⟨X, h1, h2, h3⟩
theorem PXF.more {w u u' : World} {p : Nat} {M : List EntM} {F G : Foot} (h : PXF w u p M F) (hb : Below u.heap.size u u') (hG : ∀ k, G k → F k ∨ u.heap.size ≤ k ∧ k < u'.heap.size) : PXF w u' p M G := by
  obtain ⟨X, h1, h2, h3, h4⟩ := h
  refine ⟨X, h1.past hb, h2.trans (hb.mono h2.size), h3, fun k hk => ?_⟩
  rcases hG k hk with e | e
  · exact ⟨Nat.lt_of_lt_of_le (h4 k e).1 hb.size, (h4 k e).2⟩
  · exact ⟨e.2, fun hx => by have := h1.lt k hx; omega⟩
theorem PXF.past {w u u' : World} {p : Nat} {M : List EntM} {F : Foot} (h : PXF w u p M F) (hb : Below u.heap.size u u') : PXF w u' p M F := h.more hb (fun k hk => .inl hk)
theorem fadd {w u : World} {p : Nat} {M : List EntM} {F : Foot} (h : PXF w u p M F) (Y : EntM) (he : EntW u Y) (r : Int) (L : List Ent) (hr : addT (ents M) Y.e = (r, L)) :
    Calls Try.prog 8 #[.pointer (some ⟨p, 0, none⟩), ev Y] u fun e w' => e = .returned (.int .i64 r) ∧ ∃ M', Hid (ents M' = L) ∧ Hid (PXF w w' p M' F ∧ ∀ k, F k → w'.heap[k]? = u.heap[k]?) := by
  obtain ⟨X, h1, h2, h3, h4⟩ := h
  refine (padd_ev p M X Y u h1 he).mono ?_
  rintro e w' ⟨rfl, M', X', j1, j2, j3, _⟩
  rw [hr] at j1 ⊢
  refine ⟨rfl, M', j1, ⟨X', j2, h2.trans (j3.chg.below h2.size h3), fun k hk => (j3.new k hk).1.elim (h3 k) (fun e => Nat.le_trans h2.size e), fun k hk => ⟨Nat.lt_of_lt_of_le (h4 k hk).1 j3.chg.size, fun hx => ?_⟩⟩, fun k hk => j3.chg.block k (h4 k hk).1 (h4 k hk).2⟩
  rcases (j3.new k hx).1 with e | e
  · exact (h4 k hk).2 e
  · have := (h4 k hk).1; omega
theorem fdrop {w u : World} {p : Nat} {M : List EntM} {F : Foot} (h : PXF w u p M F) (id : Int) :
    Calls Try.prog 15 #[.pointer (some ⟨p, 0, none⟩), .int .i64 id] u fun e w' => e = .returned (.tuple #[ev (orE (hasM M id)), .bool (hasM M id).isSome]) ∧ Hid (PXF w w' p (dropM M id) F ∧ ∀ k, F k → w'.heap[k]? = u.heap[k]?) := by
  obtain ⟨X, h1, h2, h3, h4⟩ := h
  refine (pdrop_any p M X id u h1).mono ?_
  rintro e w' ⟨rfl, j1, j2, _⟩
  exact ⟨rfl, ⟨X, j1, h2.trans (j2.chg.below h2.size h3), h3, fun k hk => ⟨Nat.lt_of_lt_of_le (h4 k hk).1 j2.chg.size, (h4 k hk).2⟩⟩, fun k hk => j2.chg.block k (h4 k hk).1 (h4 k hk).2⟩
abbrev entK (id t : Int) (K : List Int) : Ent := ⟨id, 0, 0, t, 0, [⟨K, [118], false⟩]⟩
/-- of, then Add. -/
theorem ofadd {w u : World} {p : Nat} {M : List EntM} {F : Foot} (h : PXF w u p M F) (id t : Int) (hid : -9223372036854775808 ≤ id ∧ id ≤ 9223372036854775807) (htt : -9223372036854775808 ≤ t ∧ t ≤ 9223372036854775807) (s : List Int) (hs : ∀ z ∈ s, 0 ≤ z ∧ z ≤ 255) (hm : s.length ≤ 140737488351232) (S : ByteArray) (hS : S = strOfNums s) (r : Int) (L : List Ent) (hr : addT (ents M) (entK id t (ofK s)) = (r, L)) :
    Calls Try.prog 9 #[.int .i64 id, .string S, .int .i64 t] u fun e w' => ∃ Y, e = .returned (ev Y) ∧ Hid (Below u.heap.size u w') ∧ Hid (Calls Try.prog 8 #[.pointer (some ⟨p, 0, none⟩), ev Y] w' fun e w'' => e = .returned (.int .i64 r) ∧ ∃ M', Hid (ents M' = L) ∧ Hid (PXF w w'' p M' F ∧ ∀ k, F k → w''.heap[k]? = u.heap[k]?)) := by
  refine (lof_any id t hid htt s hs hm S hS (ofK s) rfl u).mono ?_
  rintro e w' ⟨⟨Y, rfl, hY, hE⟩, hb⟩
  refine ⟨Y, rfl, hb, ?_⟩
  have h0 := h
  obtain ⟨X, _, _, _, h4⟩ := h0
  refine (fadd (h.past hb) Y hE r L (by rw [hY]; exact hr)).mono ?_
  rintro e w'' ⟨rfl, M', j1, j2⟩
  exact ⟨rfl, M', j1, j2.out.1, fun k hk => (j2.out.2 k hk).trans (hb.block k (h4 k hk).1)⟩
def keyPB : List Int := ofK [98]
theorem keyPB_ky : Ky keyPB := ofK_ky (by decide)
def knE2 : Ent := entK 2 5 (ofK [97])
def knE1 : Ent := entK 1 4 (ofK [98])
theorem kn_a : addT [] (entK 0 5 (ofK [97])) = (1, []) := by kernel_rfl
theorem kn_b : addT [] (entK 1 0 (ofK [97])) = (1, []) := by kernel_rfl
theorem kn_c : addT [] ⟨1, 0, 0, 3, 0, []⟩ = (1, []) := by kernel_rfl
theorem kn_1 : addT [] (entK 2 5 (ofK [97])) = (0, [knE2]) := by kernel_rfl
theorem kn_2 : addT [knE2] (entK 1 4 (ofK [98])) = (0, [knE1, knE2]) := by kernel_rfl
theorem kn_d : addT [knE1, knE2] (entK 2 5 (ofK [122])) = (5, [knE1, knE2]) := by kernel_rfl
theorem kn_e : addT [knE1, knE2] (entK 3 5 (ofK [98])) = (9, [knE1, knE2]) := by kernel_rfl
theorem kn_l : leastT [knE1, knE2] = some (4, 0) := by kernel_rfl
theorem kn_h : holdT [knE1, knE2] keyPB = some knE1 := by kernel_rfl
theorem kn_s1 : hasT [knE1, knE2] 1 = some knE1 := by kernel_rfl
theorem kn_dr : dropT [knE1, knE2] 1 = [knE2] := by kernel_rfl
theorem kn_s2 : hasT [knE2] 1 = none := by kernel_rfl
theorem kn_dr2 : dropT [knE2] 1 = [knE2] := by kernel_rfl
theorem kn_s3 : hasT [knE2] 2 = some knE2 := by kernel_rfl
/-- The keys and entries that fill the table. -/
abbrev keyN (n : Nat) : List Int := [1, n, 0, 0, 0, 0, 0, 0, 0, 0, 0, 0, 0, 0, 0, 0]
def entN (n : Nat) : Ent := ⟨n, 0, 0, 5, 0, [⟨keyN n, [], false⟩]⟩
def fillN (n : Nat) : List Ent := knE2 :: (List.range (n - 10)).map (fun j => entN (10 + j))
theorem keyN_ky {n : Nat} (h : n ≤ 255) : Ky (keyN n) := by
  refine ⟨rfl, fun z hz => ?_⟩
  simp only [List.mem_cons, List.not_mem_nil, or_false] at hz
  omega
theorem keyN_good : ∀ n : Fin 256, 1 ≤ n.val → goodK (keyN n.val) = true := by decide +kernel
theorem fill_next {n : Nat} (h : 10 ≤ n) : fillN (n + 1) = fillN n ++ [entN n] := by
  unfold fillN
  rw [show n + 1 - 10 = n - 10 + 1 by omega, List.range_succ, List.map_append, List.map_cons, List.map_nil, List.cons_append, show 10 + (n - 10) = n by omega]
theorem fill_len (n : Nat) : (fillN n).length = n - 10 + 1 := by unfold fillN; simp
theorem fill_mem {n : Nat} {e : Ent} (h : e ∈ fillN n) : e = knE2 ∨ ∃ j, 10 ≤ j ∧ j < n ∧ e = entN j := by
  unfold fillN at h
  rcases List.mem_cons.1 h with h | h
  · exact .inl h
  · obtain ⟨j, hj, rfl⟩ := List.mem_map.1 h
    have := List.mem_range.1 hj
    exact .inr ⟨10 + j, by omega, by omega, rfl⟩
theorem entN_good {n : Nat} (h1 : 10 ≤ n) (h2 : n < 109) : goodE (entN n) = true := by
  have hk := keyN_good ⟨n, by omega⟩ (by show 1 ≤ n; omega)
  unfold goodE entN
  have hm : mayW [⟨keyN n, [], false⟩] 1 = true := by
    rw [may_all]
    refine ⟨⟨by simp, by simp⟩, fun W hW => ?_, by simp⟩
    simp at hW
    rw [hW]
    unfold okW
    rw [show goodK (⟨keyN n, [], false⟩ : Wrt).k = true from hk]
    rfl
  have e1 : decide ((1 : Int) ≤ (n : Int)) = true := decide_eq_true (by omega)
  show (decide ((1 : Int) ≤ (n : Int)) && decide (okS 0) && decide (okS 5) && decide (0 < cmpS 5 0 0 0) && mayW [⟨keyN n, [], false⟩] 1) = true
  rw [hm, e1]
  rfl
theorem fill_up {n : Nat} {e : Ent} (h1 : 10 ≤ n) (h : e ∈ fillN n) : e.id < n := by
  rcases fill_mem h with rfl | ⟨j, hj1, hj2, rfl⟩
  · show (2 : Int) < n; omega
  · show (j : Int) < n; omega
theorem takeWhile_all {α : Type} {p : α → Bool} : ∀ {l : List α}, (∀ x ∈ l, p x = true) → l.takeWhile p = l
  | [], _ => rfl
  | x :: r, h => by rw [List.takeWhile_cons_of_pos (h x (by simp)), takeWhile_all (fun y hy => h y (by simp [hy]))]
theorem kn_fill {n : Nat} (h1 : 10 ≤ n) (h2 : n < 109) : addT (fillN n) (entN n) = (0, fillN (n + 1)) := by
  have hid : (entN n).id = (n : Int) := rfl
  have hno : hasT (fillN n) (entN n).id = none := by
    unfold hasT
    rw [List.find?_eq_none]
    intro e he
    have := fill_up h1 he
    rw [hid]
    simp
    omega
  have hhe : heldT (fillN n) (entN n).l = false := by
    unfold heldT
    refine List.any_eq_false.2 (fun W hW => ?_)
    have hWk : W.k = keyN n := by
      have : W ∈ [(⟨keyN n, [], false⟩ : Wrt)] := hW
      simp at this
      rw [this]
    rw [hWk]
    have : holdT (fillN n) (keyN n) = none := by
      unfold holdT
      rw [List.find?_eq_none]
      intro e he
      rcases fill_mem he with rfl | ⟨j, hj1, hj2, rfl⟩
      · unfold hasK knE2
        intro hh
        obtain ⟨V, hV, e2⟩ := List.any_eq_true.1 hh
        simp at hV
        rw [hV] at e2
        have e3 : ofK [97] = keyN n := of_decide_eq_true e2
        have e4 := congrArg (fun l => l[0]?) e3
        rw [show (ofK [97])[0]? = some 97 by kernel_rfl] at e4
        have e5 : (97 : Int) = 1 := Option.some.inj e4
        omega
      · unfold hasK entN
        intro hh
        obtain ⟨V, hV, e2⟩ := List.any_eq_true.1 hh
        simp at hV
        rw [hV] at e2
        have e3 : keyN j = keyN n := of_decide_eq_true e2
        have e4 := congrArg (fun l => l[1]?) e3
        have e5 : (j : Int) = (n : Int) := Option.some.inj e4
        omega
    rw [this]
    simp
  have hpl : placeT (fillN n) (entN n).id = (fillN n).length := by
    unfold placeT
    rw [hid, takeWhile_all (fun e he => decide_eq_true (fill_up h1 he))]
  unfold addT
  rw [if_neg (by rw [entN_good h1 h2]; simp), if_neg (by rw [hno]; simp), if_neg (by rw [hhe]; simp), if_neg (by rw [fill_len]; omega), hpl, List.take_of_length_le (Nat.le_refl _), List.drop_eq_nil_of_le (Nat.le_refl _), ← fill_next h1]
theorem kn_full : addT (fillN 109) (entK 500 5 (ofK [113])) = (6, fillN 109) := by
  have hid : (entK 500 5 (ofK [113])).id = 500 := rfl
  have hno : hasT (fillN 109) (entK 500 5 (ofK [113])).id = none := by
    unfold hasT
    rw [List.find?_eq_none]
    intro e he
    have := fill_up (by omega) he
    rw [hid]
    simp
    omega
  have hhe : heldT (fillN 109) (entK 500 5 (ofK [113])).l = false := by
    unfold heldT
    refine List.any_eq_false.2 (fun W hW => ?_)
    have hWk : W.k = ofK [113] := by
      have : W ∈ [(⟨ofK [113], [118], false⟩ : Wrt)] := hW
      simp at this
      rw [this]
    rw [hWk]
    have : holdT (fillN 109) (ofK [113]) = none := by
      unfold holdT
      rw [List.find?_eq_none]
      intro e he
      have hq : (ofK [113])[0]? = some 113 := by kernel_rfl
      rcases fill_mem he with rfl | ⟨j, hj1, hj2, rfl⟩
      · unfold hasK knE2
        intro hh
        obtain ⟨V, hV, e2⟩ := List.any_eq_true.1 hh
        simp at hV
        rw [hV] at e2
        have e3 : ofK [97] = ofK [113] := of_decide_eq_true e2
        have e4 := congrArg (fun l => l[0]?) e3
        rw [show (ofK [97])[0]? = some 97 by kernel_rfl] at e4
        have e5 := e4.trans hq
        have e6 : (97 : Int) = 113 := Option.some.inj e5
        omega
      · unfold hasK entN
        intro hh
        obtain ⟨V, hV, e2⟩ := List.any_eq_true.1 hh
        simp at hV
        rw [hV] at e2
        have e3 : keyN j = ofK [113] := of_decide_eq_true e2
        have e4 := congrArg (fun l => l[0]?) e3
        have e5 := e4.trans hq
        have e6 : (1 : Int) = 113 := Option.some.inj e5
        omega
    rw [this]
    simp
  unfold addT
  rw [if_neg (by rw [show goodE (entK 500 5 (ofK [113])) = true by kernel_rfl]; simp), if_neg (by rw [hno]; simp), if_neg (by rw [hhe]; simp), if_pos (by rw [fill_len]; omega)]
/-- What PrepKnown keeps: the table, a stamp, an answer's first number, a dropped one's. -/
structure KnT (w u : World) (p : Nat) (M : List EntM) (lb g xb : Nat) : Prop where
  t : PXF w u p M (fun k => k = lb ∨ k = g ∨ k = xb)
  c0 : u.cell? ⟨lb, 0, none⟩ = some (.int .i64 4)
  c1 : u.cell? ⟨lb, 1, none⟩ = some (.int .u8 0)
  g0 : u.cell? ⟨g, 0, none⟩ = some (.int .i64 1)
  x0 : u.cell? ⟨xb, 0, none⟩ = some (.int .i64 1)
theorem KnT.turn {w u u' : World} {p : Nat} {M M' : List EntM} {lb g xb : Nat} (h : KnT w u p M lb g xb) (j : PXF w u' p M' (fun k => k = lb ∨ k = g ∨ k = xb)) (hk : ∀ k, k = lb ∨ k = g ∨ k = xb → u'.heap[k]? = u.heap[k]?) : KnT w u' p M' lb g xb :=
  ⟨j, (cell_kept (hk lb (.inl rfl)) 0).trans h.c0, (cell_kept (hk lb (.inl rfl)) 1).trans h.c1, (cell_kept (hk g (.inr (.inl rfl))) 0).trans h.g0, (cell_kept (hk xb (.inr (.inr rfl))) 0).trans h.x0⟩
theorem KnT.past {w u u' : World} {p : Nat} {M : List EntM} {lb g xb : Nat} (h : KnT w u p M lb g xb) (hb : Below u.heap.size u u') : KnT w u' p M lb g xb :=
  h.turn (h.t.past hb) (fun k hk => by
    obtain ⟨X, _, _, _, h4⟩ := h.t
    exact hb.block k (h4 k hk).1)
/-- What the last look of PrepKnown reads. -/
structure KnC (u : World) (lb g xb : Nat) : Prop where
  c0 : u.cell? ⟨lb, 0, none⟩ = some (.int .i64 4)
  c1 : u.cell? ⟨lb, 1, none⟩ = some (.int .u8 0)
  g0 : u.cell? ⟨g, 0, none⟩ = some (.int .i64 1)
  x0 : u.cell? ⟨xb, 0, none⟩ = some (.int .i64 1)
theorem KnT.c {w u : World} {p : Nat} {M : List EntM} {lb g xb : Nat} (h : KnT w u p M lb g xb) : KnC u lb g xb := ⟨h.c0, h.c1, h.g0, h.x0⟩
theorem kn_holdM {M : List EntM} (h : ents M = [knE1, knE2]) : (orE (holdM M keyPB)).e.id = 1 ∧ (holdM M keyPB).isSome = true := by
  have e := holdM_e M keyPB
  rw [h, kn_h] at e
  cases hx : holdM M keyPB with
  | none => rw [hx] at e; cases e
  | some x => rw [hx] at e; have e2 : x.e = knE1 := Option.some.inj e; exact ⟨by show x.e.id = 1; rw [e2]; rfl, rfl⟩
theorem kn_hasM {M : List EntM} {L : List Ent} (h : ents M = L) (i : Int) {o : Option Ent} (ho : hasT L i = o) : (hasM M i).isSome = o.isSome ∧ ∀ e, o = some e → (orE (hasM M i)).e = e := by
  have e := hasM_e M i
  rw [h, ho] at e
  cases hx : hasM M i with
  | none => rw [hx] at e; exact ⟨by rw [← e]; rfl, fun e1 h1 => by rw [← e] at h1; cases h1⟩
  | some x => rw [hx] at e; exact ⟨by rw [← e]; rfl, fun e1 h1 => by rw [← e] at h1; exact Option.some.inj h1⟩
theorem kn_all {u w' : World} {a : Option Addr} {N c : Nat} {L M : List EntM} (h : AllOf w' u.heap.size (.slice a N c) L (ents M)) (hM : ents M = [knE1, knE2]) : ∃ g, a = some ⟨g, 0, none⟩ ∧ N = 2 ∧ N ≤ c ∧ u.heap.size ≤ g ∧ g < w'.heap.size ∧ w'.cell? ⟨g, 0, none⟩ = some (.int .i64 1) := by
  have hL : ents L = [knE1, knE2] := h.is.trans hM
  obtain ⟨h1, h2, h3⟩ := h.open
  have hlen : L.length = 2 := by have := congrArg List.length hL; rwa [List.length_map] at this
  cases L with
  | nil => simp at hlen
  | cons y r =>
    obtain ⟨g, rfl, HG⟩ := h3 0 y rfl
    have hat := (HG.out w' (Below.refl _ _)).1
    have hy : y.e = knE1 := by simp [ents] at hL; exact hL.1
    have hc := hat.cells.1
    rw [Nat.zero_mul, hy] at hc
    refine ⟨g, rfl, by rw [h1, hlen], h2, ?_, hat.lt, hc⟩
    exact (h.row.lt g rfl).1
end Go.Proofs.Ythgkbabikeknlaa
