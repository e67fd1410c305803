/-
  The document's own parts: Abort, Commit.
  The document's own parts: Commit.
-/
import Derived.Test.YtileidbdmpeciaaGreatAu111
import Derived.Test.YtileidbdmpeciaaGreatAu100
import Derived.Test.YtileidbdmpeciaaGreatAu84
import Derived.Test.YtileidbdmpeciaaGreatAu112
namespace Go.Proofs.YtileidbdmpeciaaGreat
open Go.RowKit
set_option linter.unusedVariables false
set_option linter.unusedSimpArgs false

theorem newW_drop (w : World) (M : List EntM) (id : Int) : NewW w M (dropM M id) := fun x hx => .inl (List.mem_filter.1 hx).1
theorem lies_end (u : World) (x : Int × Int) (ty : TypeId) : Lies (u.alloc (.cells #[.int .i64 x.1, .int .i64 x.2] ty)) (some ⟨u.heap.size, 0, none⟩) (encO x) := lies_of fun j v hj => by
  rw [Nat.zero_add, World.cell?_alloc_new]
  simpa [encO] using hj
/-- One more is over, behind what was turned before. -/
theorem PrtR.done {w w3 w6 : World} {B q s t : Nat} {S S' : List Ver} {M M' : List EntM} {O : List (Int × Int)} {x : Int × Int} {a a6 : Option Addr} {c c6 : Nat} {o : Obj} (h : PrtR w B q s t S M O) (g : PrtR w3 B q s t S' M' O) (hcr : Chg w w3 (fun k => k = s ∨ k = t) ∧ RowsS w w3 s t) (hn : NewW w M M') (hO : O.length ≤ 900) (o1 : w3.cell? ⟨q, 2, none⟩ = some (.slice a O.length c)) (x1 : w6.ownsRow B 124 2 (.slice a6 (O.length + 1) c6) (O.length + 1) (O.flatMap encO ++ encO x)) (x2 : (w3.alloc o).grownBy w6 (Value.slice a O.length c).ownBlock) (x3 : (Value.slice a6 (O.length + 1) c6).ownBlock = (Value.slice a O.length c).ownBlock ∨ (Value.slice a6 (O.length + 1) c6).ownBlock = some (w3.alloc o).heap.size) :
    (w6.cell? ⟨q, 2, none⟩ = some (.slice a O.length c) ∧ w6.frozen? ⟨q, 2, none⟩ = false) ∧ PrtD w (w6.setCell ⟨q, 2, none⟩ (.slice a6 (O.length + 1) c6)) B q s t M ⟨S', ents M', O ++ [x]⟩ := by
  have hb : Below w3.heap.size w3 (w3.alloc o) := (Below.refl _ _).alloc (Nat.le_refl _) _
  have hc := hcr.1
  have g2 := g.past hb
  have q2 : (w3.alloc o).cell? ⟨q, 2, none⟩ = some (.slice a O.length c) := (hb.cell (p := ⟨q, 2, none⟩) g.lt).trans o1
  have hg : Chg (w3.alloc o) w6 (fun j => (Value.slice a O.length c).ownBlock = some j) := Chg.of_grown x2 (fun k e => e)
  obtain ⟨a0, c0, h1, h2, h3⟩ := g2.over
  have hnq : (Value.slice a O.length c).ownBlock ≠ some q := fun e => by
    rw [q2] at h1
    injection h1 with h1
    rw [h1] at e
    exact (h3 q e).1 rfl
  have hgq := hg.block q g2.lt hnq
  have hq3 := hc.block q h.lt (fun e => e.elim h.qs h.qt)
  have ec : w3.cell? ⟨q, 2, none⟩ = w.cell? ⟨q, 2, none⟩ := (cell_of_block hq3 2).1
  have ef : ∀ k, PrtF (w3.alloc o) q s t k ↔ PrtF w q s t k := fun k => by
    rw [PrtF.below g.lt hb k]
    unfold PrtF
    rw [ec]
  obtain ⟨m1, m2, m3, m4⟩ := g2.more hO q2 hg x1 (fun g' hg' => by
    rcases x3 with e | e
    · exact .inl (e.symm.trans hg')
    · rw [e] at hg'
      injection hg' with hg'
      exact .inr (Nat.le_of_eq hg'))
  refine ⟨⟨(cell_of_block hgq 2).1.trans q2, (cell_of_block hgq 2).2.trans g2.free⟩, ⟨⟨M', m1, rfl, hn⟩, ?_, fun k hk => ?_, (hcr.2.trans (RowsS.of_below hb g.sto.lt g.tab.lt) hc.size).trans m4 (Nat.le_trans hc.size hb.size)⟩⟩
  · refine ((hc.mono (Y := PrtF w q s t) (fun k _ e => e.elim (fun e => .inr (.inl e)) (fun e => .inr (.inr (.inl e))))).trans (Chg.of_below hb (PrtF w q s t)) (fun _ _ e => e)).trans m2 (fun j _ e => (ef j).1 e)
  · rcases m3 k hk with e | e
    · exact .inl ((ef k).1 e)
    · exact .inr (Nat.le_trans hc.size (Nat.le_trans hb.size e))
set_option maxHeartbeats 4000000 in
set_option maxRecDepth 8000 in
theorem rabort_any (B q s t : Nat) (S : List Ver) (M : List EntM) (O : List (Int × Int)) (id : Int) (w : World) (h : PrtR w B q s t S M O) (hB : B ≤ w.heap.size) (hO : O.length ≤ 900) :
    Calls Tryz.prog 26 #[.pointer (some ⟨q, 0, none⟩), .int .i64 id] w fun e w' => e = .returned (.int .i64 (abortP ⟨S, ents M, O⟩ id).1) ∧ PrtD w w' B q s t M (abortP ⟨S, ents M, O⟩ id).2 := by
  obtain ⟨Z, hZ⟩ : ∃ Z, Z = abortP ⟨S, ents M, O⟩ id := ⟨_, rfl⟩
  rw [← hZ]
  obtain ⟨R, hR⟩ : ∃ R, R = stateP ⟨S, ents M, O⟩ id := ⟨_, rfl⟩
  obtain ⟨N, hN⟩ : ∃ N, N = O.length := ⟨_, rfl⟩
  have HP : Hid (PrtR w B q s t S M O) := h
  have HB : Hid (B ≤ w.heap.size) := hB
  have HN : Hid (N = O.length) := hN
  have hN9 : N ≤ 900 := by omega
  have CS : Hid (∀ u, Below w.heap.size w u → Calls Tryz.prog 34 #[.pointer (some ⟨q, 0, none⟩), .int .i64 id] u fun e w' => e = .returned (.int .i64 R) ∧ Below w.heap.size w w') := fun u hu => by
    rw [hR]
    exact (rstate_any B q s t S M O id u (h.past hu)).mono (by rintro e w' ⟨rfl, hb⟩; exact ⟨rfl, hu.trans (hb.mono hu.size)⟩)
  have CD : Hid (∀ u, Below w.heap.size w u → Calls Tryz.prog 70 #[.pointer (some ⟨t, 0, none⟩), .int .i64 id] u fun e w' => (∃ v, e = .returned v) ∧ PrtR w' B q s t S (dropM M id) O ∧ Chg w w' (fun k => k = s ∨ k = t) ∧ RowsS w w' s t) := fun u hu => by
    refine (rdrop_any B t M id u (h.past hu).tab (Nat.le_trans hB hu.size)).mono ?_
    rintro e w' ⟨rfl, d1, d2, d3⟩
    exact ⟨⟨_, rfl⟩, (h.past hu).turnT d1 d2 d3 (newW_drop u M id), (Chg.of_below hu _).trans d2 (fun j _ e => .inr e), (RowsS.of_below hu HP.out.sto.lt HP.out.tab.lt).trans (RowsS.turnT d2 d3 (HP.out.past hu).sto.lt HP.out.st) hu.size⟩
  have HZ : Hid (Z = if id < 1 then (1, ⟨S, ents M, O⟩) else if R = 2 then (10, ⟨S, ents M, O⟩) else if R = 3 then (0, ⟨S, ents M, O⟩) else (0, ⟨S, ents (dropM M id), O ++ [(id, 3)]⟩)) := by
    show _ = _
    rw [hZ, hR, dropM_e]
    rfl
  clear h hB hN hR hZ hO
  by_cases h1 : id < 1
  · have HF : Hid (Z = (1, ⟨S, ents M, O⟩)) := by have := HZ.out; rw [if_pos h1] at this; exact this
    go_enter Tryz.func26, Tryz.ntmps26
    go_wp2
    go_ret
    exact ⟨by rw [HF.out]; rfl, by rw [HF.out]; exact HP.out.stay (Below.refl _ _)⟩
  by_cases h2 : R = 2
  · have HF : Hid (Z = (10, ⟨S, ents M, O⟩)) := by have := HZ.out; rw [if_neg h1, if_pos h2] at this; exact this
    subst h2
    go_enter Tryz.func26, Tryz.ntmps26
    go_wp2_with (first | (go_at_call 34; refine (CS.out _ (Below.refl _ _)).mono ?_; rintro e w2 ⟨rfl, hb⟩; have G1 : Hid (Below w.heap.size w w2) := hb; clear hb))
    go_ret
    exact ⟨by rw [HF.out]; rfl, by rw [HF.out]; exact HP.out.stay G1.out⟩
  by_cases h3 : R = 3
  · have HF : Hid (Z = (0, ⟨S, ents M, O⟩)) := by have := HZ.out; rw [if_neg h1, if_neg h2, if_pos h3] at this; exact this
    subst h3
    go_enter Tryz.func26, Tryz.ntmps26
    go_wp2_with (first | (go_at_call 34; refine (CS.out _ (Below.refl _ _)).mono ?_; rintro e w2 ⟨rfl, hb⟩; have G1 : Hid (Below w.heap.size w w2) := hb; clear hb))
    go_ret
    exact ⟨by rw [HF.out]; rfl, by rw [HF.out]; exact HP.out.stay G1.out⟩
  have HF : Hid (Z = (0, ⟨S, ents (dropM M id), O ++ [(id, 3)]⟩)) := by have := HZ.out; rw [if_neg h1, if_neg h2, if_neg h3] at this; exact this
  have h2b : (R == 2) = false := by simpa using h2
  have h3b : (R == 3) = false := by simpa using h3
  clear h2 h3
  go_enter Tryz.func26, Tryz.ntmps26
  go_wp2_with (first
    | (have hgo := HO3.out; clear hgo; at_builtin; refine wpList_append_els_at endEl B (Nat.le_trans HB3.out ((Below.refl _ _).alloc (Nat.le_refl _) _).size) rfl _ _ rfl _ N (O.flatMap encO) (encO (id, 3)) rfl (own_below HO3.out ((Below.refl _ _).alloc (Nat.le_refl _) _) (Nat.le_refl _)) _ 1 1 rfl rfl (lies_end w3 (id, 3) _) (encO_one _) (by omega) ?_; intro a' c' w6 x1 x2 x3; have HD := HP.out.done (x := (id, 3)) G3.out.1 G3.out.2 (newW_drop w M id) (by rw [← HN.out]; exact hN9) (by rw [← HN.out]; exact q2) (by rw [← HN.out]; exact x1) (by rw [← HN.out]; exact x2) (by rw [← HN.out]; exact x3); obtain ⟨⟨y1, y2⟩, y3⟩ := HD; rw [← HN.out] at y1 y3; have HY : Hid (PrtD w (w6.setCell ⟨q, 2, none⟩ (.slice a' (N + 1) c')) B q s t M ⟨S, ents (dropM M id), O ++ [(id, 3)]⟩) := y3; clear x1 x2 x3 y3)
    | (have hgo := G1.out; clear hgo; go_at_call 70; refine (CD.out _ G1.out).mono ?_; rintro e w3 ⟨⟨v3, rfl⟩, hb, hc⟩; have G3 : Hid (PrtR w3 B q s t S (dropM M id) O ∧ Chg w w3 (fun k => k = s ∨ k = t) ∧ RowsS w w3 s t) := ⟨hb, hc⟩; obtain ⟨a, c, q2, o2, o3⟩ := hb.over; rw [← HN.out] at q2 o2 o3; have HO3 : Hid (w3.ownsRow B 124 2 (.slice a N c) N (O.flatMap encO)) := o2; have HB3 : Hid (B ≤ w3.heap.size) := Nat.le_trans HB.out hc.1.size; clear hb hc o2 o3)
    | (go_at_call 34; refine (CS.out _ (Below.refl _ _)).mono ?_; rintro e w2 ⟨rfl, hb⟩; have G1 : Hid (Below w.heap.size w w2) := hb; have q1 := (hb.cell (p := ⟨q, 1, none⟩) HP.out.lt).trans HP.out.c1; clear hb))
  go_ret
  exact ⟨by rw [HF.out]; rfl, by rw [HF.out]; exact HY.out⟩
end Go.Proofs.YtileidbdmpeciaaGreat

namespace Go.Proofs.YtileidbdmpeciaaGreat
open Go.RowKit
set_option linter.unusedVariables false
set_option linter.unusedSimpArgs false

/-- The store or the table turned, no more. -/
theorem PrtD.turned {w w' : World} {B q s t : Nat} {S S' : List Ver} {M M' : List EntM} {O : List (Int × Int)} (h : PrtR w B q s t S M O) (g : PrtR w' B q s t S' M' O) (hc : Chg w w' (fun k => k = s ∨ k = t)) (hn : NewW w M M') (hr : RowsS w w' s t) : PrtD w w' B q s t M ⟨S', ents M', O⟩ := by
  have hq3 := hc.block q h.lt (fun e => e.elim h.qs h.qt)
  have ec : w'.cell? ⟨q, 2, none⟩ = w.cell? ⟨q, 2, none⟩ := (cell_of_block hq3 2).1
  refine ⟨⟨M', g, rfl, hn⟩, hc.mono (fun k _ e => e.elim (fun e => .inr (.inl e)) (fun e => .inr (.inr (.inl e)))), fun k hk => ?_, hr⟩
  unfold PrtF at hk ⊢
  rw [ec] at hk
  exact .inl hk
set_option maxHeartbeats 8000000 in
set_option maxRecDepth 8000 in
theorem rcommit_any (B q s tb : Nat) (S : List Ver) (M : List EntM) (O : List (Int × Int)) (id t n : Int) (w : World) (h : PrtR w B q s tb S M O) (hB : B ≤ w.heap.size) (hO : O.length ≤ 900) (hn : 0 ≤ n ∧ n ≤ 255) (hS : S.length ≤ 900000) (hh : ∀ x ∈ O, x.2 = 2 ∨ x.2 = 3) :
    Calls Tryz.prog 25 #[.pointer (some ⟨q, 0, none⟩), .int .i64 id, .agg #[.int .i64 t, .int .u8 n]] w fun e w' => e = .returned (.int .i64 (commitP ⟨S, ents M, O⟩ id t n).1) ∧ PrtD w w' B q s tb M (commitP ⟨S, ents M, O⟩ id t n).2 := by
  obtain ⟨Z, hZ⟩ : ∃ Z, Z = commitP ⟨S, ents M, O⟩ id t n := ⟨_, rfl⟩
  rw [← hZ]
  have hst := state_cases (S := S) (M := M) hh id
  obtain ⟨R, hR⟩ : ∃ R, R = stateP ⟨S, ents M, O⟩ id := ⟨_, rfl⟩
  obtain ⟨N, hN⟩ : ∃ N, N = O.length := ⟨_, rfl⟩
  obtain ⟨g, hg⟩ : ∃ g, g = decide (okS t) := ⟨_, rfl⟩
  obtain ⟨W0, hW0⟩ : ∃ u, u = w.alloc (.cells #[.int .i64 t, .int .u8 n] 28) := ⟨_, rfl⟩
  have HW0 : Hid (w.alloc (.cells #[.int .i64 t, .int .u8 n] 28) = W0) := hW0.symm
  have hb0 : Below w.heap.size w W0 := by rw [hW0]; exact (Below.refl _ _).alloc (Nat.le_refl _) _
  have e0 : W0.heap.size = w.heap.size + 1 := by rw [hW0]; simp
  have HB0 : Hid (Below w.heap.size w W0) := hb0
  have FSS : Hid (∀ u, Below W0.heap.size W0 u → u.cell? ⟨w.heap.size, 0, none⟩ = some (.int .i64 t) ∧ u.cell? ⟨w.heap.size, 1, none⟩ = some (.int .u8 n)) := fun u hu => by
    refine ⟨(hu.cell (p := ⟨w.heap.size, 0, none⟩) (by show w.heap.size < _; omega)).trans ?_, (hu.cell (p := ⟨w.heap.size, 1, none⟩) (by show w.heap.size < _; omega)).trans ?_⟩
    · rw [hW0, World.cell?_alloc_new]; rfl
    · rw [hW0, World.cell?_alloc_new]; rfl
  have HP : Hid (PrtR w B q s tb S M O) := h
  have HB : Hid (B ≤ w.heap.size) := hB
  have HN : Hid (N = O.length) := hN
  have hN9 : N ≤ 900 := by omega
  have CG : Hid (∀ u, Calls Tryz.prog 67 #[.agg #[.int .i64 t, .int .u8 n]] u fun e w' => e = .returned (.bool g) ∧ Below u.heap.size u w') := fun u => by rw [hg]; exact rgood6_any t n u
  have CS : Hid (∀ u, Below w.heap.size w u → Calls Tryz.prog 34 #[.pointer (some ⟨q, 0, none⟩), .int .i64 id] u fun e w' => e = .returned (.int .i64 R) ∧ Below u.heap.size u w') := fun u hu => by
    rw [hR]
    exact rstate_any B q s tb S M O id u (h.past hu)
  have HZ : Hid (Z = if g = false then (1, ⟨S, ents M, O⟩) else if R = 2 then (0, ⟨S, ents M, O⟩) else if R = 3 then (10, ⟨S, ents M, O⟩) else match hasM M id with
      | none => (4, ⟨S, ents M, O⟩)
      | some x => if cmpS t n x.e.t x.e.n < 0 then (1, ⟨S, ents M, O⟩) else if (applyV S t n x.e.l).1 ≠ 0 then ((applyV S t n x.e.l).1, ⟨S, ents M, O⟩) else (0, ⟨(applyV S t n x.e.l).2, ents (dropM M id), O ++ [(id, 2)]⟩)) := by
    show _ = _
    rw [hZ, hR, hg, dropM_e]
    unfold commitP
    rw [← hasM_e M id]
    cases hasM M id <;> rfl
  have CH : Hid (∀ u, Below w.heap.size w u → Calls Tryz.prog 68 #[.pointer (some ⟨tb, 0, none⟩), .int .i64 id] u fun e w' => e = .returned (.tuple #[ev (orE (hasM M id)), .bool (hasM M id).isSome]) ∧ Below u.heap.size u w') := fun u hu => rhas_any B tb M id u (h.past hu).tab
  have HC1 : Hid (∀ u, Below w.heap.size w u → u.cell? ⟨q, 0, none⟩ = some (.pointer (some ⟨s, 0, none⟩)) ∧ u.cell? ⟨q, 1, none⟩ = some (.pointer (some ⟨tb, 0, none⟩))) := fun u hu => ⟨(hu.cell (p := ⟨q, 0, none⟩) h.lt).trans h.c0, (hu.cell (p := ⟨q, 1, none⟩) h.lt).trans h.c1⟩
  rw [← hR] at hst
  have HST : Hid _ := hst
  clear h hB hN hR hZ hO hW0 hg e0 hst hb0
  cases g with
  | false =>
    have HF : Hid (Z = (1, ⟨S, ents M, O⟩)) := by have := HZ.out; rw [if_pos rfl] at this; exact this
    go_enter Tryz.func25, Tryz.ntmps25
    go_wp2_with (first | (go_at_call 67; refine (CG.out _).mono ?_; rintro e w1 ⟨rfl, hb⟩; rw [HW0.out] at hb; have G1 : Hid (Below w.heap.size w w1) := HB0.out.trans (hb.mono HB0.out.size); clear hb))
    go_ret
    exact ⟨by rw [HF.out]; rfl, by rw [HF.out]; exact HP.out.stay G1.out⟩
  | true =>
  have HZ2 := HZ.out
  rw [if_neg (by decide)] at HZ2
  by_cases h2 : R = 2
  · have HF : Hid (Z = (0, ⟨S, ents M, O⟩)) := by rw [if_pos h2] at HZ2; exact HZ2
    clear HZ2
    subst h2
    go_enter Tryz.func25, Tryz.ntmps25
    go_wp2_with (first | (have hgo := G1.out; clear hgo; go_at_call 34; refine (CS.out _ G1.out).mono ?_; rintro e w2 ⟨rfl, hb⟩; have G2 : Hid (Below w.heap.size w w2) := G1.out.trans (hb.mono G1.out.size); clear hb) | (go_at_call 67; refine (CG.out _).mono ?_; rintro e w1 ⟨rfl, hb⟩; rw [HW0.out] at hb; have G1 : Hid (Below w.heap.size w w1) := HB0.out.trans (hb.mono HB0.out.size); clear hb))
    go_ret
    exact ⟨by rw [HF.out]; rfl, by rw [HF.out]; exact HP.out.stay G2.out⟩
  by_cases h3 : R = 3
  · have HF : Hid (Z = (10, ⟨S, ents M, O⟩)) := by rw [if_neg h2, if_pos h3] at HZ2; exact HZ2
    clear HZ2
    subst h3
    go_enter Tryz.func25, Tryz.ntmps25
    go_wp2_with (first | (have hgo := G1.out; clear hgo; go_at_call 34; refine (CS.out _ G1.out).mono ?_; rintro e w2 ⟨rfl, hb⟩; have G2 : Hid (Below w.heap.size w w2) := G1.out.trans (hb.mono G1.out.size); clear hb) | (go_at_call 67; refine (CG.out _).mono ?_; rintro e w1 ⟨rfl, hb⟩; rw [HW0.out] at hb; have G1 : Hid (Below w.heap.size w w1) := HB0.out.trans (hb.mono HB0.out.size); clear hb))
    go_ret
    exact ⟨by rw [HF.out]; rfl, by rw [HF.out]; exact HP.out.stay G2.out⟩
  rw [if_neg h2, if_neg h3] at HZ2
  rcases HST.out with e | ⟨rfl, e⟩ | ⟨rfl, ⟨⟨⟨I, SS, SM, TT, TN, lw⟩, aw, cw⟩, e⟩⟩
  · exact (e.elim h2 h3).elim
  · have HF : Hid (Z = (4, ⟨S, ents M, O⟩)) := by rw [e] at HZ2; exact HZ2
    clear HZ2 h2 h3
    go_enter Tryz.func25, Tryz.ntmps25
    go_wp2_with (first | (have hgo := G1.out; clear hgo; go_at_call 34; refine (CS.out _ G1.out).mono ?_; rintro e w2 ⟨rfl, hb⟩; have G2 : Hid (Below w.heap.size w w2) := G1.out.trans (hb.mono G1.out.size); clear hb) | (go_at_call 67; refine (CG.out _).mono ?_; rintro e w1 ⟨rfl, hb⟩; rw [HW0.out] at hb; have G1 : Hid (Below w.heap.size w w1) := HB0.out.trans (hb.mono HB0.out.size); clear hb))
    go_ret
    exact ⟨by rw [HF.out]; rfl, by rw [HF.out]; exact HP.out.stay G2.out⟩
  rw [e] at HZ2
  simp only at HZ2
  have hx := HP.out.tab.wrs _ (hasM_mem e)
  obtain ⟨nw, hnw⟩ : ∃ n, n = lw.length := ⟨_, rfl⟩
  have hr1 : nw ≤ cw := by rw [hnw]; exact hx.room
  have hr2 : nw ≤ 1000000 := by rw [hnw]; exact hx.few
  have CH2 : Hid (∀ u, Below w.heap.size w u → Calls Tryz.prog 68 #[.pointer (some ⟨tb, 0, none⟩), .int .i64 id] u fun e w' => e = .returned (.tuple #[.agg #[.int .i64 I, .int .i64 SS, .int .u8 SM, .int .i64 TT, .int .u8 TN, .slice aw nw cw], .bool true]) ∧ Below u.heap.size u w') := fun u hu => by
    have h1 := CH.out u hu
    rw [e] at h1
    rw [hnw]
    exact h1
  have CA : Hid (∀ u, Below w.heap.size w u → Calls Tryz.prog 69 #[.pointer (some ⟨s, 0, none⟩), .agg #[.int .i64 t, .int .u8 n], .slice aw nw cw] u fun e w' => e = .returned (.int .i64 (applyV S t n lw).1) ∧ PrtR w' B q s tb (applyV S t n lw).2 M O ∧ Chg w w' (fun k => k = s) ∧ RowsS w w' s tb) := fun u hu => by
    refine (rapply10_any B s S t n hn aw nw cw lw hnw.symm hr1 hr2 u (HP.out.past hu).sto (Nat.le_trans HB.out hu.size) (by omega) (hx.wr.past hu)).mono ?_
    rintro e w' ⟨rfl, d1, d2, d3⟩
    exact ⟨rfl, (HP.out.past hu).turnS d1 d2 d3, (Chg.of_below hu _).trans d2 (fun j _ e => e), (RowsS.of_below hu HP.out.sto.lt HP.out.tab.lt).trans (RowsS.turnS d2 d3 (HP.out.past hu).tab.lt HP.out.st) hu.size⟩
  obtain ⟨c, hc⟩ : ∃ c, c = cmpS t n TT TN := ⟨_, rfl⟩
  have CC : Hid (∀ u, Calls Tryz.prog 39 #[.agg #[.int .i64 t, .int .u8 n], .agg #[.int .i64 TT, .int .u8 TN]] u fun e w' => e = .returned (.int .i64 c) ∧ Below u.heap.size u w') := fun u => by rw [hc]; exact rcmp6_any t n TT TN u
  rw [← hc] at HZ2
  clear hc hx hnw e h2 h3 CH hr1 hr2
  by_cases h4 : c < 0
  · have HF : Hid (Z = (1, ⟨S, ents M, O⟩)) := by rw [if_pos h4] at HZ2; exact HZ2
    clear HZ2
    go_enter Tryz.func25, Tryz.ntmps25
    go_wp2_with (first
      | (have hgo := G3.out; clear hgo; go_at_call 39; refine (CC.out _).mono ?_; rintro e w4 ⟨rfl, hb⟩; have G4 : Hid (Below w.heap.size w w4) := (G3.out.alloc G3.out.size _).trans (hb.mono (G3.out.alloc G3.out.size _).size); clear hb)
      | (have hgo := G2.out; clear hgo; go_at_call 68; refine (CH2.out _ G2.out).mono ?_; rintro e w3 ⟨rfl, hb⟩; have G3 : Hid (Below w.heap.size w w3) := G2.out.trans (hb.mono G2.out.size); have H3 : Hid (Below W0.heap.size W0 w3) := H2.out.trans (hb.mono H2.out.size); have s0 : ∀ o, (w3.alloc o).cell? ⟨w.heap.size, 0, none⟩ = some (.int .i64 t) := fun o => (FSS.out (w3.alloc o) (H3.out.alloc H3.out.size o)).1; have s1 : ∀ o, (w3.alloc o).cell? ⟨w.heap.size, 1, none⟩ = some (.int .u8 n) := fun o => (FSS.out (w3.alloc o) (H3.out.alloc H3.out.size o)).2; clear hb)
      | (have hgo := G1.out; clear hgo; go_at_call 34; refine (CS.out _ G1.out).mono ?_; rintro e w2 ⟨rfl, hb⟩; have G2 : Hid (Below w.heap.size w w2) := G1.out.trans (hb.mono G1.out.size); have H2 : Hid (Below W0.heap.size W0 w2) := H1.out.trans (hb.mono H1.out.size); obtain ⟨q0, q1⟩ := HC1.out w2 G2.out; clear hb)
      | (go_at_call 67; refine (CG.out _).mono ?_; rintro e w1 ⟨rfl, hb⟩; rw [HW0.out] at hb; have G1 : Hid (Below w.heap.size w w1) := HB0.out.trans (hb.mono HB0.out.size); have H1 : Hid (Below W0.heap.size W0 w1) := hb; clear hb))
    go_ret
    exact ⟨by rw [HF.out]; rfl, by rw [HF.out]; exact HP.out.stay G4.out⟩
  have HN4 : Hid (NewW w M (dropM M id)) := newW_drop w M id
  have CD : Hid (∀ u S', PrtR u B q s tb S' M O → Chg w u (fun k => k = s) ∧ RowsS w u s tb → Calls Tryz.prog 70 #[.pointer (some ⟨tb, 0, none⟩), .int .i64 id] u fun e w' => (∃ v, e = .returned v) ∧ PrtR w' B q s tb S' (dropM M id) O ∧ Chg w w' (fun k => k = s ∨ k = tb) ∧ RowsS w w' s tb) := fun u S' hu hc => by
    refine (rdrop_any B tb M id u hu.tab (Nat.le_trans HB.out hc.1.size)).mono ?_
    rintro e w' ⟨rfl, d1, d2, d3⟩
    exact ⟨⟨_, rfl⟩, hu.turnT d1 d2 d3 (newW_drop u M id), (hc.1.mono (fun j _ e => .inl e)).trans (d2.mono (fun j _ e => .inr e)) (fun j _ e => e), hc.2.trans (RowsS.turnT d2 d3 hu.sto.lt hu.st) hc.1.size⟩
  have AF : Hid ((applyV S t n lw).1 ≠ 0 → (applyV S t n lw).2 = S) := apply_fail
  obtain ⟨⟨f, S'⟩, hf⟩ : ∃ x, x = applyV S t n lw := ⟨_, rfl⟩
  rw [← hf] at CA AF HZ2
  simp only at CA AF HZ2
  rw [if_neg h4] at HZ2
  clear hf
  by_cases h5 : f = 0
  · have HF : Hid (Z = (0, ⟨S', ents (dropM M id), O ++ [(id, 2)]⟩)) := by rw [if_neg (fun hne => hne h5)] at HZ2; exact HZ2
    clear HZ2 AF
    subst h5
    go_enter Tryz.func25, Tryz.ntmps25
    go_wp2_with (first
      | (have hgo := G3.out; clear hgo; go_at_call 39; refine (CC.out _).mono ?_; rintro e w4 ⟨rfl, hb⟩; have z5 := ent5 hb; have G4 : Hid (Below w.heap.size w w4) := (G3.out.alloc G3.out.size _).trans (hb.mono (G3.out.alloc G3.out.size _).size); have H4 : Hid (Below W0.heap.size W0 w4) := (H3.out.alloc H3.out.size _).trans (hb.mono (H3.out.alloc H3.out.size _).size); have Z5 : Hid (w4.cell? ⟨w3.heap.size, 5, none⟩ = some (.slice aw nw cw) ∧ w3.heap.size < w4.heap.size) := ⟨z5, cell_lt z5⟩; clear hb z5)
      | (have hgo := G2.out; clear hgo; go_at_call 68; refine (CH2.out _ G2.out).mono ?_; rintro e w3 ⟨rfl, hb⟩; have G3 : Hid (Below w.heap.size w w3) := G2.out.trans (hb.mono G2.out.size); have H3 : Hid (Below W0.heap.size W0 w3) := H2.out.trans (hb.mono H2.out.size); have s0 : ∀ o, (w3.alloc o).cell? ⟨w.heap.size, 0, none⟩ = some (.int .i64 t) := fun o => (FSS.out (w3.alloc o) (H3.out.alloc H3.out.size o)).1; have s1 : ∀ o, (w3.alloc o).cell? ⟨w.heap.size, 1, none⟩ = some (.int .u8 n) := fun o => (FSS.out (w3.alloc o) (H3.out.alloc H3.out.size o)).2; clear hb)
      | (have hgo := G1.out; clear hgo; go_at_call 34; refine (CS.out _ G1.out).mono ?_; rintro e w2 ⟨rfl, hb⟩; have G2 : Hid (Below w.heap.size w w2) := G1.out.trans (hb.mono G1.out.size); have H2 : Hid (Below W0.heap.size W0 w2) := H1.out.trans (hb.mono H1.out.size); obtain ⟨q0, q1⟩ := HC1.out w2 G2.out; clear hb)
      | (go_at_call 67; refine (CG.out _).mono ?_; rintro e w1 ⟨rfl, hb⟩; rw [HW0.out] at hb; have G1 : Hid (Below w.heap.size w w1) := HB0.out.trans (hb.mono HB0.out.size); have H1 : Hid (Below W0.heap.size W0 w1) := hb; clear hb))
    have FW4 : Hid (∀ u, Below w4.heap.size w4 u → Below w.heap.size w u ∧ u.cell? ⟨q, 0, none⟩ = some (.pointer (some ⟨s, 0, none⟩)) ∧ u.cell? ⟨w.heap.size, 0, none⟩ = some (.int .i64 t) ∧ u.cell? ⟨w.heap.size, 1, none⟩ = some (.int .u8 n) ∧ u.cell? ⟨w3.heap.size, 5, none⟩ = some (.slice aw nw cw)) := fun u hu => ⟨G4.out.trans (hu.mono G4.out.size), (HC1.out u (G4.out.trans (hu.mono G4.out.size))).1, (FSS.out u (H4.out.trans (hu.mono H4.out.size))).1, (FSS.out u (H4.out.trans (hu.mono H4.out.size))).2, (hu.cell (p := ⟨w3.heap.size, 5, none⟩) Z5.out.2).trans Z5.out.1⟩
    clear q0 q1 s0 s1
    refine wp_region_noPanic ?_
    refine region_up 7 (fun u => Below w4.heap.size w4 u) (by kernel_rfl) ?_ (fun hHeld => ?_)
    · exact (Below.refl _ _).drew
    refine up_take (i := 0) (v := ?_) (by kernel_rfl) (by kernel_rfl) (by kernel_rfl) rfl (by kernel_rfl) (by kernel_rfl) (by kernel_rfl) (fun _ _ _ h => h) (Or.inl ⟨by rfl, ?_⟩) hHeld ?_
    rotate_left
    · intro u hSu
      (go_simp) <;> (with_reducible rfl)
    change wpUp _ _ _ _ _ _ _ _ (Act.put _ (some 36) _) _
    simp only [Act.put, List.setIfInBounds_toArray, List.set_cons_zero, List.set_cons_succ]
    refine up_take (i := 1) (v := ?_) (by kernel_rfl) (by kernel_rfl) (by kernel_rfl) rfl (by kernel_rfl) (by kernel_rfl) (by kernel_rfl) (fun _ _ _ h => h) (Or.inl ⟨by rfl, ?_⟩) hHeld ?_
    rotate_left
    · intro u hSu
      (go_simp) <;> (with_reducible rfl)
    change wpUp _ _ _ _ _ _ _ _ (Act.put _ (some 37) _) _
    simp only [Act.put, List.setIfInBounds_toArray, List.set_cons_zero, List.set_cons_succ]
    refine up_take (i := 2) (v := ?_) (by kernel_rfl) (by kernel_rfl) (by kernel_rfl) rfl (by kernel_rfl) (by kernel_rfl) (by kernel_rfl) (fun _ _ _ h => h) (Or.inl ⟨by rfl, ?_⟩) hHeld ?_
    rotate_left
    · intro u hSu
      (go_simp) <;> (with_reducible rfl)
    change wpUp _ _ _ _ _ _ _ _ (Act.put _ (some 38) _) _
    simp only [Act.put, List.setIfInBounds_toArray, List.set_cons_zero, List.set_cons_succ]
    refine up_take (i := 3) (v := ?_) (by kernel_rfl) (by kernel_rfl) (by kernel_rfl) rfl (by kernel_rfl) (by kernel_rfl) (by kernel_rfl) (fun _ _ _ h => h) (Or.inl ⟨by rfl, ?_⟩) hHeld ?_
    rotate_left
    · intro u hSu
      have q0 := (FW4.out u hSu).2.1
      (go_simp) <;> (with_reducible rfl)
    change wpUp _ _ _ _ _ _ _ _ (Act.put _ (some 39) _) _
    simp only [Act.put, List.setIfInBounds_toArray, List.set_cons_zero, List.set_cons_succ]
    refine up_take (i := 4) (v := ?_) (by kernel_rfl) (by kernel_rfl) (by kernel_rfl) rfl (by kernel_rfl) (by kernel_rfl) (by kernel_rfl) (fun _ _ _ h => h) (Or.inl ⟨by rfl, ?_⟩) hHeld ?_
    rotate_left
    · intro u hSu
      obtain ⟨_, _, s0, s1, _⟩ := FW4.out u hSu
      (go_simp) <;> (with_reducible rfl)
    change wpUp _ _ _ _ _ _ _ _ (Act.put _ (some 40) _) _
    simp only [Act.put, List.setIfInBounds_toArray, List.set_cons_zero, List.set_cons_succ]
    refine up_take (i := 5) (v := ?_) (by kernel_rfl) (by kernel_rfl) (by kernel_rfl) rfl (by kernel_rfl) (by kernel_rfl) (by kernel_rfl) (fun _ _ _ h => h) (Or.inl ⟨by rfl, ?_⟩) hHeld ?_
    rotate_left
    · intro u hSu
      (go_simp) <;> (with_reducible rfl)
    change wpUp _ _ _ _ _ _ _ _ (Act.put _ (some 41) _) _
    simp only [Act.put, List.setIfInBounds_toArray, List.set_cons_zero, List.set_cons_succ]
    refine up_take (i := 6) (v := ?_) (by kernel_rfl) (by kernel_rfl) (by kernel_rfl) rfl (by kernel_rfl) (by kernel_rfl) (by kernel_rfl) (fun _ _ _ h => h) (Or.inl ⟨by rfl, ?_⟩) hHeld ?_
    rotate_left
    · intro u hSu
      have z5 := (FW4.out u hSu).2.2.2.2
      (go_simp) <;> (with_reducible rfl)
    change wpUp _ _ _ _ _ _ _ _ (Act.put _ (some 42) _) _
    simp only [Act.put, List.setIfInBounds_toArray, List.set_cons_zero, List.set_cons_succ]
    refine up_ready (rs := [7]) (by kernel_rfl) (by simp) ?_
    refine AllUp.that rfl (fun K hK => ?_) AllUp.nil
    go_simp
    go_at_call 69
    refine (CA.out _ (FW4.out _ hHeld).1).mono ?_
    rintro e w5 ⟨rfl, d1, d2⟩
    have G5 : Hid (PrtR w5 B q s tb S' M O ∧ Chg w w5 (fun k => k = s) ∧ RowsS w w5 s tb) := ⟨d1, d2⟩; have q1 := d1.c1; clear d1 d2
    refine hK.out _ _ ?_
    clear hK K hHeld
    refine up_after (i := 8) (v := ?_) (by kernel_rfl) (by kernel_rfl) rfl (Or.inl ⟨by rfl, ?_⟩) ?_
    rotate_left
    · intro u hSu
      (go_simp) <;> (with_reducible rfl)
    change wpUp _ _ _ _ _ _ _ _ (Act.put _ (some 9) _) _
    simp only [Act.put, List.setIfInBounds_toArray, List.set_cons_zero, List.set_cons_succ]
    refine up_done (by kernel_rfl) ?_
    refine NoPanic.normal ?_
    go_wp2_with (first
      | (have hgo := HO3.out; clear hgo; at_builtin; refine wpList_append_els_at endEl B (Nat.le_trans HB3.out ((Below.refl _ _).alloc (Nat.le_refl _) _).size) rfl _ _ rfl _ N (O.flatMap encO) (encO (id, 2)) rfl (own_below HO3.out ((Below.refl _ _).alloc (Nat.le_refl _) _) (Nat.le_refl _)) _ 1 1 rfl rfl (lies_end w6 (id, 2) _) (encO_one _) (by omega) ?_; intro a' c' w7 x1 x2 x3; have HD := HP.out.done (x := (id, 2)) G6.out.1 G6.out.2 HN4.out (by rw [← HN.out]; exact hN9) (by rw [← HN.out]; exact q2) (by rw [← HN.out]; exact x1) (by rw [← HN.out]; exact x2) (by rw [← HN.out]; exact x3); obtain ⟨⟨y1, y2⟩, y3⟩ := HD; rw [← HN.out] at y1 y3; have HY : Hid (PrtD w (w7.setCell ⟨q, 2, none⟩ (.slice a' (N + 1) c')) B q s tb M ⟨S', ents (dropM M id), O ++ [(id, 2)]⟩) := y3; clear x1 x2 x3 y3)
      | (have hgo := G5.out; clear hgo; go_at_call 70; refine (CD.out _ _ G5.out.1 G5.out.2).mono ?_; rintro e w6 ⟨⟨v6, rfl⟩, hb, hc⟩; have G6 : Hid (PrtR w6 B q s tb S' (dropM M id) O ∧ Chg w w6 (fun k => k = s ∨ k = tb) ∧ RowsS w w6 s tb) := ⟨hb, hc⟩; obtain ⟨a, c6, q2, o2, o3⟩ := hb.over; rw [← HN.out] at q2 o2 o3; have HO3 : Hid (w6.ownsRow B 124 2 (.slice a N c6) N (O.flatMap encO)) := o2; have HB3 : Hid (B ≤ w6.heap.size) := Nat.le_trans HB.out hc.1.size; clear hb hc o2 o3))
    go_ret
    exact ⟨by rw [HF.out]; rfl, by rw [HF.out]; exact HY.out⟩
  · have HF : Hid (Z = (f, ⟨S', ents M, O⟩)) := by rw [if_pos h5] at HZ2; rw [AF.out h5]; exact HZ2
    have h5b : (f == 0) = false := by simpa using h5
    clear HZ2 AF h5
    go_enter Tryz.func25, Tryz.ntmps25
    go_wp2_with (first
      | (have hgo := G3.out; clear hgo; go_at_call 39; refine (CC.out _).mono ?_; rintro e w4 ⟨rfl, hb⟩; have z5 := ent5 hb; have G4 : Hid (Below w.heap.size w w4) := (G3.out.alloc G3.out.size _).trans (hb.mono (G3.out.alloc G3.out.size _).size); have H4 : Hid (Below W0.heap.size W0 w4) := (H3.out.alloc H3.out.size _).trans (hb.mono (H3.out.alloc H3.out.size _).size); have Z5 : Hid (w4.cell? ⟨w3.heap.size, 5, none⟩ = some (.slice aw nw cw) ∧ w3.heap.size < w4.heap.size) := ⟨z5, cell_lt z5⟩; clear hb z5)
      | (have hgo := G2.out; clear hgo; go_at_call 68; refine (CH2.out _ G2.out).mono ?_; rintro e w3 ⟨rfl, hb⟩; have G3 : Hid (Below w.heap.size w w3) := G2.out.trans (hb.mono G2.out.size); have H3 : Hid (Below W0.heap.size W0 w3) := H2.out.trans (hb.mono H2.out.size); have s0 : ∀ o, (w3.alloc o).cell? ⟨w.heap.size, 0, none⟩ = some (.int .i64 t) := fun o => (FSS.out (w3.alloc o) (H3.out.alloc H3.out.size o)).1; have s1 : ∀ o, (w3.alloc o).cell? ⟨w.heap.size, 1, none⟩ = some (.int .u8 n) := fun o => (FSS.out (w3.alloc o) (H3.out.alloc H3.out.size o)).2; clear hb)
      | (have hgo := G1.out; clear hgo; go_at_call 34; refine (CS.out _ G1.out).mono ?_; rintro e w2 ⟨rfl, hb⟩; have G2 : Hid (Below w.heap.size w w2) := G1.out.trans (hb.mono G1.out.size); have H2 : Hid (Below W0.heap.size W0 w2) := H1.out.trans (hb.mono H1.out.size); obtain ⟨q0, q1⟩ := HC1.out w2 G2.out; clear hb)
      | (go_at_call 67; refine (CG.out _).mono ?_; rintro e w1 ⟨rfl, hb⟩; rw [HW0.out] at hb; have G1 : Hid (Below w.heap.size w w1) := HB0.out.trans (hb.mono HB0.out.size); have H1 : Hid (Below W0.heap.size W0 w1) := hb; clear hb))
    have FW4 : Hid (∀ u, Below w4.heap.size w4 u → Below w.heap.size w u ∧ u.cell? ⟨q, 0, none⟩ = some (.pointer (some ⟨s, 0, none⟩)) ∧ u.cell? ⟨w.heap.size, 0, none⟩ = some (.int .i64 t) ∧ u.cell? ⟨w.heap.size, 1, none⟩ = some (.int .u8 n) ∧ u.cell? ⟨w3.heap.size, 5, none⟩ = some (.slice aw nw cw)) := fun u hu => ⟨G4.out.trans (hu.mono G4.out.size), (HC1.out u (G4.out.trans (hu.mono G4.out.size))).1, (FSS.out u (H4.out.trans (hu.mono H4.out.size))).1, (FSS.out u (H4.out.trans (hu.mono H4.out.size))).2, (hu.cell (p := ⟨w3.heap.size, 5, none⟩) Z5.out.2).trans Z5.out.1⟩
    clear q0 q1 s0 s1
    refine wp_region_noPanic ?_
    refine region_up 7 (fun u => Below w4.heap.size w4 u) (by kernel_rfl) ?_ (fun hHeld => ?_)
    · exact (Below.refl _ _).drew
    refine up_take (i := 0) (v := ?_) (by kernel_rfl) (by kernel_rfl) (by kernel_rfl) rfl (by kernel_rfl) (by kernel_rfl) (by kernel_rfl) (fun _ _ _ h => h) (Or.inl ⟨by rfl, ?_⟩) hHeld ?_
    rotate_left
    · intro u hSu
      (go_simp) <;> (with_reducible rfl)
    change wpUp _ _ _ _ _ _ _ _ (Act.put _ (some 36) _) _
    simp only [Act.put, List.setIfInBounds_toArray, List.set_cons_zero, List.set_cons_succ]
    refine up_take (i := 1) (v := ?_) (by kernel_rfl) (by kernel_rfl) (by kernel_rfl) rfl (by kernel_rfl) (by kernel_rfl) (by kernel_rfl) (fun _ _ _ h => h) (Or.inl ⟨by rfl, ?_⟩) hHeld ?_
    rotate_left
    · intro u hSu
      (go_simp) <;> (with_reducible rfl)
    change wpUp _ _ _ _ _ _ _ _ (Act.put _ (some 37) _) _
    simp only [Act.put, List.setIfInBounds_toArray, List.set_cons_zero, List.set_cons_succ]
    refine up_take (i := 2) (v := ?_) (by kernel_rfl) (by kernel_rfl) (by kernel_rfl) rfl (by kernel_rfl) (by kernel_rfl) (by kernel_rfl) (fun _ _ _ h => h) (Or.inl ⟨by rfl, ?_⟩) hHeld ?_
    rotate_left
    · intro u hSu
      (go_simp) <;> (with_reducible rfl)
    change wpUp _ _ _ _ _ _ _ _ (Act.put _ (some 38) _) _
    simp only [Act.put, List.setIfInBounds_toArray, List.set_cons_zero, List.set_cons_succ]
    refine up_take (i := 3) (v := ?_) (by kernel_rfl) (by kernel_rfl) (by kernel_rfl) rfl (by kernel_rfl) (by kernel_rfl) (by kernel_rfl) (fun _ _ _ h => h) (Or.inl ⟨by rfl, ?_⟩) hHeld ?_
    rotate_left
    · intro u hSu
      have q0 := (FW4.out u hSu).2.1
      (go_simp) <;> (with_reducible rfl)
    change wpUp _ _ _ _ _ _ _ _ (Act.put _ (some 39) _) _
    simp only [Act.put, List.setIfInBounds_toArray, List.set_cons_zero, List.set_cons_succ]
    refine up_take (i := 4) (v := ?_) (by kernel_rfl) (by kernel_rfl) (by kernel_rfl) rfl (by kernel_rfl) (by kernel_rfl) (by kernel_rfl) (fun _ _ _ h => h) (Or.inl ⟨by rfl, ?_⟩) hHeld ?_
    rotate_left
    · intro u hSu
      obtain ⟨_, _, s0, s1, _⟩ := FW4.out u hSu
      (go_simp) <;> (with_reducible rfl)
    change wpUp _ _ _ _ _ _ _ _ (Act.put _ (some 40) _) _
    simp only [Act.put, List.setIfInBounds_toArray, List.set_cons_zero, List.set_cons_succ]
    refine up_take (i := 5) (v := ?_) (by kernel_rfl) (by kernel_rfl) (by kernel_rfl) rfl (by kernel_rfl) (by kernel_rfl) (by kernel_rfl) (fun _ _ _ h => h) (Or.inl ⟨by rfl, ?_⟩) hHeld ?_
    rotate_left
    · intro u hSu
      (go_simp) <;> (with_reducible rfl)
    change wpUp _ _ _ _ _ _ _ _ (Act.put _ (some 41) _) _
    simp only [Act.put, List.setIfInBounds_toArray, List.set_cons_zero, List.set_cons_succ]
    refine up_take (i := 6) (v := ?_) (by kernel_rfl) (by kernel_rfl) (by kernel_rfl) rfl (by kernel_rfl) (by kernel_rfl) (by kernel_rfl) (fun _ _ _ h => h) (Or.inl ⟨by rfl, ?_⟩) hHeld ?_
    rotate_left
    · intro u hSu
      have z5 := (FW4.out u hSu).2.2.2.2
      (go_simp) <;> (with_reducible rfl)
    change wpUp _ _ _ _ _ _ _ _ (Act.put _ (some 42) _) _
    simp only [Act.put, List.setIfInBounds_toArray, List.set_cons_zero, List.set_cons_succ]
    refine up_ready (rs := [7]) (by kernel_rfl) (by simp) ?_
    refine AllUp.that rfl (fun K hK => ?_) AllUp.nil
    go_simp
    go_at_call 69
    refine (CA.out _ (FW4.out _ hHeld).1).mono ?_
    rintro e w5 ⟨rfl, d1, d2⟩
    have G5 : Hid (PrtR w5 B q s tb S' M O ∧ Chg w w5 (fun k => k = s) ∧ RowsS w w5 s tb) := ⟨d1, d2⟩; have q1 := d1.c1; clear d1 d2
    refine hK.out _ _ ?_
    clear hK K hHeld
    refine up_after (i := 8) (v := ?_) (by kernel_rfl) (by kernel_rfl) rfl (Or.inl ⟨by rfl, ?_⟩) ?_
    rotate_left
    · intro u hSu
      (go_simp) <;> (with_reducible rfl)
    change wpUp _ _ _ _ _ _ _ _ (Act.put _ (some 9) _) _
    simp only [Act.put, List.setIfInBounds_toArray, List.set_cons_zero, List.set_cons_succ]
    refine up_done (by kernel_rfl) ?_
    refine NoPanic.normal ?_
    go_wp2
    go_ret
    exact ⟨by rw [HF.out]; rfl, by rw [HF.out]; exact PrtD.turned HP.out G5.out.1 (G5.out.2.1.mono (fun j _ e => .inl e)) (fun x hx => .inl hx) G5.out.2.2⟩
end Go.Proofs.YtileidbdmpeciaaGreat

