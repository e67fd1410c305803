/-
  What the landed parts answer and leave: Prepare (package part).
-/
import Derived.Test.YtileidbdmpeciaaGreatPaC5
import Derived.Test.YtileidbdmpeciaaGreatPaC6
import Derived.Test.YtileidbdmpeciaaGreatAu60
namespace Go.Proofs.YtileidbdmpeciaaGreat
open Go.RowKit
set_option linter.unusedVariables false
set_option linter.unusedSimpArgs false

theorem good_few {e : Ent} (h : goodE e = true) : e.l.length ≤ 16 ∧ (e.l.map (fun W => W.k)).Nodup := by
  unfold goodE mayW at h
  simp only [Bool.and_eq_true, decide_eq_true_eq] at h
  refine ⟨h.2.1.1.2, ?_⟩
  unfold List.Nodup
  rw [List.pairwise_map]
  exact h.2.2
/-- The keys of what is prepared: no two are alike. -/
theorem keysT_nodup {T : List Ent} (h : TabK T) : (keysT T).Nodup := by
  unfold keysT List.Nodup
  rw [List.pairwise_flatMap]
  refine ⟨fun e he => (good_few (h.good e he)).2, h.apart.imp (fun {a b} hab x hx y hy e => ?_)⟩
  obtain ⟨W, hW, rfl⟩ := List.mem_map.1 hx
  obtain ⟨W2, hW2, e2⟩ := List.mem_map.1 hy
  exact hab W.k ⟨hasK_of hW, by rw [e, ← e2]; exact hasK_of hW2⟩
theorem PstK.few {P : PSt} (K : PstK P) : (keysV P.S).length ≤ 200 ∧ (keysT P.T).length ≤ 200 := by
  obtain ⟨U, u1, u2, u3⟩ := K.keys
  exact ⟨Nat.le_trans (len_le_of_sub (keys_nodup K.sto.sto.ord) u1) u3, Nat.le_trans (len_le_of_sub (keysT_nodup K.tab) u2) u3⟩
set_option maxHeartbeats 8000000 in
set_option maxRecDepth 8000 in
theorem pprep_any {q s tb mm : Nat} {P : PSt} {M : List EntM} {XS XT : Foot} (id es em t n : Int) (a : Option Addr) (N c : Nat) (l : List Wrt) (w : World) (h : ParI w q s tb mm P M XS XT) (K : PstK P) (hl : l.length = N) (he : EntW w ⟨(⟨id, es, em, t, n, l⟩ : Ent), a, c⟩) :
    Calls Tryz.prog 10 #[.pointer (some ⟨q, 0, none⟩), .agg #[.int .i64 id, .int .i64 es, .int .u8 em, .int .i64 t, .int .u8 n, .slice a N c]] w fun e w' => e = .returned (.int .i64 (prepP P ⟨id, es, em, t, n, l⟩).1) ∧ ParL w w' q s tb mm M XS XT (prepP P ⟨id, es, em, t, n, l⟩).2 := by
  obtain ⟨Z, hZ⟩ : ∃ Z, Z = prepP P ⟨id, es, em, t, n, l⟩ := ⟨_, rfl⟩
  rw [← hZ]
  obtain ⟨W0, hW0⟩ : ∃ u, u = w.alloc (.cells #[.int .i64 id, .int .i64 es, .int .u8 em, .int .i64 t, .int .u8 n, .slice a N c] 31) := ⟨_, rfl⟩
  have hb0 : Below w.heap.size w W0 := by rw [hW0]; exact (Below.refl _ _).alloc (Nat.le_refl _) _
  have e0 : W0.heap.size = w.heap.size + 1 := by rw [hW0]; simp
  have HB0 : Hid (Below w.heap.size w W0) := hb0
  have HW0 : Hid (w.alloc (.cells #[.int .i64 id, .int .i64 es, .int .u8 em, .int .i64 t, .int .u8 n, .slice a N c] 31) = W0) := hW0.symm
  have k1 : ∀ o, W0.cell? ⟨w.heap.size, o, none⟩ = (#[.int .i64 id, .int .i64 es, .int .u8 em, .int .i64 t, .int .u8 n, .slice a N c] : Array Value)[o]? := fun o => by rw [hW0, World.cell?_alloc_new]
  have FE : Hid (∀ u, Below W0.heap.size W0 u → u.cell? ⟨w.heap.size, 0, none⟩ = some (.int .i64 id) ∧ u.cell? ⟨w.heap.size, 1, none⟩ = some (.int .i64 es) ∧ u.cell? ⟨w.heap.size, 2, none⟩ = some (.int .u8 em) ∧ u.cell? ⟨w.heap.size, 3, none⟩ = some (.int .i64 t) ∧ u.cell? ⟨w.heap.size, 4, none⟩ = some (.int .u8 n) ∧ u.cell? ⟨w.heap.size, 5, none⟩ = some (.slice a N c)) := fun u hu => by
    have f : ∀ o, u.cell? ⟨w.heap.size, o, none⟩ = W0.cell? ⟨w.heap.size, o, none⟩ := fun o => hu.cell (p := ⟨w.heap.size, o, none⟩) (by show w.heap.size < _; omega)
    exact ⟨(f 0).trans (k1 0), (f 1).trans (k1 1), (f 2).trans (k1 2), (f 3).trans (k1 3), (f 4).trans (k1 4), (f 5).trans (k1 5)⟩
  have HQ : Hid (∀ u, Below W0.heap.size W0 u → Below w.heap.size w u ∧ u.cell? ⟨q, 1, none⟩ = some (.pointer (some ⟨tb, 0, none⟩))) := fun u hu => by
    have hb := hb0.trans (hu.mono hb0.size)
    exact ⟨hb, (h.past hb).c1⟩
  obtain ⟨gd, hgd⟩ : ∃ g, g = goodE ⟨id, es, em, t, n, l⟩ := ⟨_, rfl⟩
  obtain ⟨R, hR⟩ : ∃ R, R = stateP P id := ⟨_, rfl⟩
  obtain ⟨cf, hcf⟩ : ∃ cf, cf = l.any (cfW P.S P.T es em) := ⟨_, rfl⟩
  obtain ⟨fl, hfl⟩ : ∃ fl, fl = l.any (fun W => decide (50 ≤ kMany P.S W.k)) := ⟨_, rfl⟩
  obtain ⟨NS, hNS⟩ : ∃ NS, NS = (sortK (keysV P.S ++ l.map (fun W => W.k) ++ keysT P.T)).length := ⟨_, rfl⟩
  obtain ⟨ad, had⟩ : ∃ ad, ad = addT P.T ⟨id, es, em, t, n, l⟩ := ⟨_, rfl⟩
  have hroom : N ≤ c := by rw [← hl]; exact he.room
  have hfewN : N ≤ 1000000 := by rw [← hl]; exact he.few
  have hid : I64 id := he.ok.id
  have HZ : Hid (Z = if gd = false then (1, P) else if R ≠ 0 then (10, P) else if cf = true then (9, P) else if (fl || decide (200 < NS)) = true then (6, P) else (ad.1, ⟨P.S, ad.2, P.O⟩)) := by
    show _ = _
    rw [hZ, hgd, hR, hcf, hfl, hNS, had]
    rfl
  have CGE : Hid (∀ u, Below w.heap.size w u → Calls Tryz.prog 42 #[.agg #[.int .i64 id, .int .i64 es, .int .u8 em, .int .i64 t, .int .u8 n, .slice a N c]] u fun e w' => e = .returned (.bool gd) ∧ Below u.heap.size u w') := fun u hu => by rw [hgd]; exact pgood_any id es em t n a N c l u hl hroom hfewN (he.wr.past hu)
  have CS : Hid (∀ u, Below w.heap.size w u → Calls Tryz.prog 19 #[.pointer (some ⟨q, 0, none⟩), .int .i64 id] u fun e w' => e = .returned (.int .i64 R) ∧ Below u.heap.size u w') := fun u hu => by rw [hR]; exact pstate_any id hid u (h.past hu) K.opn
  have CCF : Hid (∀ u, Below w.heap.size w u → Calls Tryz.prog 43 #[.pointer (some ⟨q, 0, none⟩), .agg #[.int .i64 id, .int .i64 es, .int .u8 em, .int .i64 t, .int .u8 n, .slice a N c]] u fun e w' => e = .returned (.bool cf) ∧ Below u.heap.size u w') := fun u hu => by rw [hcf]; exact pconf_any id es em t n a N c l u (h.past hu) hl hroom hfewN (he.wr.past hu)
  have CFU : Hid (∀ u, Below w.heap.size w u → Calls Tryz.prog 44 #[.pointer (some ⟨q, 0, none⟩), .slice a N c] u fun e w' => e = .returned (.bool fl) ∧ Below u.heap.size u w') := fun u hu => by rw [hfl]; exact pfull_any a N c l u (h.past hu) hl hroom hfewN (he.wr.past hu)
  have CCO : Hid (gd = true → ∀ u, Below w.heap.size w u → Calls Tryz.prog 45 #[.pointer (some ⟨q, 0, none⟩), .slice a N c] u fun e w' => e = .returned (.int .i64 (NS : Nat)) ∧ Below u.heap.size u w') := fun hg u hu => by
    rw [hNS]
    have h16 := (good_few (hgd.symm.trans hg)).1
    have hf := K.few
    exact pcount_any a N c l u (h.past hu) hl hroom (by rw [← hl]; exact Nat.le_trans h16 (by decide)) (he.wr.past hu) (Nat.le_trans hf.1 (by decide)) (Nat.le_trans hf.2 (by decide))
  have CAD : Hid (∀ u, Below w.heap.size w u → Calls Tryz.prog 46 #[.pointer (some ⟨tb, 0, none⟩), .agg #[.int .i64 id, .int .i64 es, .int .u8 em, .int .i64 t, .int .u8 n, .slice a N c]] u fun e w' => e = .returned (.int .i64 ad.1) ∧ ParL w w' q s tb mm M XS XT ⟨P.S, ad.2, P.O⟩) := fun u hu => by
    refine (padd_any tb M XT id es em t n a N c l u (h.past hu).tab hl (he.past hu)).mono ?_
    rintro e w' ⟨rfl, M', X', d1, d2, d3, d4⟩
    have hp := (h.past hu).turnT d2 d3 d4
    rw [d1, h.is, ← had] at hp
    exact ⟨by rw [had, h.is], ParL.since h hu hp⟩
  have HP : Hid (ParI w q s tb mm P M XS XT) := h
  have HZ2 := HZ.out
  clear h K he hl hZ hW0 hgd hR hcf hfl hNS had hid hb0 e0 k1 hroom hfewN
  cases gd with
  | false =>
    have HF : Hid (Z = (1, P)) := by rw [if_pos rfl] at HZ2; exact HZ2
    clear HZ2
    go_enter Tryz.func10, Tryz.ntmps10
    go_wp2_with (first | (go_at_call 42; rw [HW0.out]; refine (CGE.out _ HB0.out).mono ?_; rintro e w1 ⟨rfl, hb⟩; have H1 : Hid (Below W0.heap.size W0 w1) := hb; clear hb))
    go_ret
    exact ⟨by rw [HF.out]; rfl, by rw [HF.out]; exact HP.out.stay (HQ.out _ H1.out).1⟩
  | true =>
  rw [if_neg (by decide)] at HZ2
  have CCO2 : Hid _ := CCO.out rfl
  clear CCO
  by_cases h2 : R ≠ 0
  · have HF : Hid (Z = (10, P)) := by rw [if_pos h2] at HZ2; exact HZ2
    have h2b : (R == 0) = false := by simpa using h2
    clear HZ2
    go_enter Tryz.func10, Tryz.ntmps10
    go_wp2_with (first
      | (have hgo := H1.out; clear hgo; go_at_call 19; refine (CS.out _ (HQ.out _ H1.out).1).mono ?_; rintro e w2 ⟨rfl, hb⟩; have H2 : Hid (Below W0.heap.size W0 w2) := H1.out.trans (hb.mono H1.out.size); clear hb)
      | (go_at_call 42; rw [HW0.out]; refine (CGE.out _ HB0.out).mono ?_; rintro e w1 ⟨rfl, hb⟩; have H1 : Hid (Below W0.heap.size W0 w1) := hb; obtain ⟨e0, _, _, _, _, _⟩ := FE.out w1 hb; clear hb))
    go_ret
    exact ⟨by rw [HF.out]; rfl, by rw [HF.out]; exact HP.out.stay (HQ.out _ H2.out).1⟩
  rw [if_neg h2] at HZ2
  obtain rfl : R = 0 := by omega
  clear h2
  cases cf with
  | true =>
    have HF : Hid (Z = (9, P)) := by rw [if_pos rfl] at HZ2; exact HZ2
    clear HZ2
    go_enter Tryz.func10, Tryz.ntmps10
    go_wp2_with (first
      | (have hgo := H2.out; clear hgo; go_at_call 43; refine (CCF.out _ (HQ.out _ H2.out).1).mono ?_; rintro e w3 ⟨rfl, hb⟩; have H3 : Hid (Below W0.heap.size W0 w3) := H2.out.trans (hb.mono H2.out.size); clear hb)
      | (have hgo := H1.out; clear hgo; go_at_call 19; refine (CS.out _ (HQ.out _ H1.out).1).mono ?_; rintro e w2 ⟨rfl, hb⟩; have H2 : Hid (Below W0.heap.size W0 w2) := H1.out.trans (hb.mono H1.out.size); clear e0; obtain ⟨e0, e1, e2, e3, e4, e5⟩ := FE.out w2 H2.out; clear hb)
      | (go_at_call 42; rw [HW0.out]; refine (CGE.out _ HB0.out).mono ?_; rintro e w1 ⟨rfl, hb⟩; have H1 : Hid (Below W0.heap.size W0 w1) := hb; obtain ⟨e0, _, _, _, _, _⟩ := FE.out w1 hb; clear hb))
    go_ret
    exact ⟨by rw [HF.out]; rfl, by rw [HF.out]; exact HP.out.stay (HQ.out _ H3.out).1⟩
  | false =>
  rw [if_neg (by decide)] at HZ2
  cases fl with
  | true =>
    have HF : Hid (Z = (6, P)) := by rw [if_pos (by simp)] at HZ2; exact HZ2
    clear HZ2
    go_enter Tryz.func10, Tryz.ntmps10
    go_wp2_with (first
      | (have hgo := H3.out; clear hgo; go_at_call 44; refine (CFU.out _ (HQ.out _ H3.out).1).mono ?_; rintro e w4 ⟨rfl, hb⟩; have H4 : Hid (Below W0.heap.size W0 w4) := H3.out.trans (hb.mono H3.out.size); clear hb)
      | (have hgo := H2.out; clear hgo; go_at_call 43; refine (CCF.out _ (HQ.out _ H2.out).1).mono ?_; rintro e w3 ⟨rfl, hb⟩; have H3 : Hid (Below W0.heap.size W0 w3) := H2.out.trans (hb.mono H2.out.size); clear e0 e1 e2 e3 e4 e5; obtain ⟨_, _, _, _, _, e5⟩ := FE.out w3 H3.out; clear hb)
      | (have hgo := H1.out; clear hgo; go_at_call 19; refine (CS.out _ (HQ.out _ H1.out).1).mono ?_; rintro e w2 ⟨rfl, hb⟩; have H2 : Hid (Below W0.heap.size W0 w2) := H1.out.trans (hb.mono H1.out.size); clear e0; obtain ⟨e0, e1, e2, e3, e4, e5⟩ := FE.out w2 H2.out; clear hb)
      | (go_at_call 42; rw [HW0.out]; refine (CGE.out _ HB0.out).mono ?_; rintro e w1 ⟨rfl, hb⟩; have H1 : Hid (Below W0.heap.size W0 w1) := hb; obtain ⟨e0, _, _, _, _, _⟩ := FE.out w1 hb; clear hb))
    go_ret
    exact ⟨by rw [HF.out]; rfl, by rw [HF.out]; exact HP.out.stay (HQ.out _ H4.out).1⟩
  | false =>
  have hdi : decide ((200 : Int) < (NS : Int)) = decide (200 < NS) := decide_eq_decide.2 (by omega)
  by_cases h200 : 200 < NS
  · have HF : Hid (Z = (6, P)) := by rw [if_pos (by simp [h200])] at HZ2; exact HZ2
    have b200 : decide ((200 : Int) < (NS : Int)) = true := by rw [hdi]; exact decide_eq_true h200
    clear HZ2 hdi h200
    go_enter Tryz.func10, Tryz.ntmps10
    go_wp2_with (first
      | (have hgo := H4.out; clear hgo; go_at_call 45; refine (CCO2.out _ (HQ.out _ H4.out).1).mono ?_; rintro e w5 ⟨rfl, hb⟩; have H5 : Hid (Below W0.heap.size W0 w5) := H4.out.trans (hb.mono H4.out.size); clear hb)
      | (have hgo := H3.out; clear hgo; go_at_call 44; refine (CFU.out _ (HQ.out _ H3.out).1).mono ?_; rintro e w4 ⟨rfl, hb⟩; have H4 : Hid (Below W0.heap.size W0 w4) := H3.out.trans (hb.mono H3.out.size); clear e5; obtain ⟨_, _, _, _, _, e5⟩ := FE.out w4 H4.out; clear hb)
      | (have hgo := H2.out; clear hgo; go_at_call 43; refine (CCF.out _ (HQ.out _ H2.out).1).mono ?_; rintro e w3 ⟨rfl, hb⟩; have H3 : Hid (Below W0.heap.size W0 w3) := H2.out.trans (hb.mono H2.out.size); clear e0 e1 e2 e3 e4 e5; obtain ⟨_, _, _, _, _, e5⟩ := FE.out w3 H3.out; clear hb)
      | (have hgo := H1.out; clear hgo; go_at_call 19; refine (CS.out _ (HQ.out _ H1.out).1).mono ?_; rintro e w2 ⟨rfl, hb⟩; have H2 : Hid (Below W0.heap.size W0 w2) := H1.out.trans (hb.mono H1.out.size); clear e0; obtain ⟨e0, e1, e2, e3, e4, e5⟩ := FE.out w2 H2.out; clear hb)
      | (go_at_call 42; rw [HW0.out]; refine (CGE.out _ HB0.out).mono ?_; rintro e w1 ⟨rfl, hb⟩; have H1 : Hid (Below W0.heap.size W0 w1) := hb; obtain ⟨e0, _, _, _, _, _⟩ := FE.out w1 hb; clear hb))
    go_ret
    exact ⟨by rw [HF.out]; rfl, by rw [HF.out]; exact HP.out.stay (HQ.out _ H5.out).1⟩
  · have HF : Hid (Z = (ad.1, ⟨P.S, ad.2, P.O⟩)) := by rw [if_neg (by simp [h200])] at HZ2; exact HZ2
    have b200 : decide ((200 : Int) < (NS : Int)) = false := by rw [hdi]; exact decide_eq_false h200
    clear HZ2 hdi h200
    go_enter Tryz.func10, Tryz.ntmps10
    go_wp2_with (first
      | (have hgo := H4.out; clear hgo; go_at_call 45; refine (CCO2.out _ (HQ.out _ H4.out).1).mono ?_; rintro e w5 ⟨rfl, hb⟩; have H5 : Hid (Below W0.heap.size W0 w5) := H4.out.trans (hb.mono H4.out.size); clear hb e5)
      | (have hgo := H3.out; clear hgo; go_at_call 44; refine (CFU.out _ (HQ.out _ H3.out).1).mono ?_; rintro e w4 ⟨rfl, hb⟩; have H4 : Hid (Below W0.heap.size W0 w4) := H3.out.trans (hb.mono H3.out.size); clear e5; obtain ⟨_, _, _, _, _, e5⟩ := FE.out w4 H4.out; clear hb)
      | (have hgo := H2.out; clear hgo; go_at_call 43; refine (CCF.out _ (HQ.out _ H2.out).1).mono ?_; rintro e w3 ⟨rfl, hb⟩; have H3 : Hid (Below W0.heap.size W0 w3) := H2.out.trans (hb.mono H2.out.size); clear e0 e1 e2 e3 e4 e5; obtain ⟨_, _, _, _, _, e5⟩ := FE.out w3 H3.out; clear hb)
      | (have hgo := H1.out; clear hgo; go_at_call 19; refine (CS.out _ (HQ.out _ H1.out).1).mono ?_; rintro e w2 ⟨rfl, hb⟩; have H2 : Hid (Below W0.heap.size W0 w2) := H1.out.trans (hb.mono H1.out.size); clear e0; obtain ⟨e0, e1, e2, e3, e4, e5⟩ := FE.out w2 H2.out; clear hb)
      | (go_at_call 42; rw [HW0.out]; refine (CGE.out _ HB0.out).mono ?_; rintro e w1 ⟨rfl, hb⟩; have H1 : Hid (Below W0.heap.size W0 w1) := hb; obtain ⟨e0, _, _, _, _, _⟩ := FE.out w1 hb; clear hb))
    have F5 : Hid (∀ u, Below w5.heap.size w5 u → Below W0.heap.size W0 u) := fun u hu => H5.out.trans (hu.mono H5.out.size)
    refine wp_region_noPanic ?_
    refine region_up 5 (fun u => Below w5.heap.size w5 u) (by kernel_rfl) ?_ (fun hHeld => ?_)
    · exact (Below.refl _ _).drew
    refine up_take (i := 0) (v := ?_) (by kernel_rfl) (by kernel_rfl) (by kernel_rfl) rfl (by kernel_rfl) (by kernel_rfl) (by kernel_rfl) (fun _ _ _ h => h) (Or.inl ⟨by rfl, ?_⟩) hHeld ?_
    rotate_left
    · intro u hSu
      (go_simp) <;> (with_reducible rfl)
    change wpUp _ _ _ _ _ _ _ _ (Act.put _ (some 27) _) _
    simp only [Act.put, List.setIfInBounds_toArray, List.set_cons_zero, List.set_cons_succ]
    refine up_take (i := 1) (v := ?_) (by kernel_rfl) (by kernel_rfl) (by kernel_rfl) rfl (by kernel_rfl) (by kernel_rfl) (by kernel_rfl) (fun _ _ _ h => h) (Or.inl ⟨by rfl, ?_⟩) hHeld ?_
    rotate_left
    · intro u hSu
      (go_simp) <;> (with_reducible rfl)
    change wpUp _ _ _ _ _ _ _ _ (Act.put _ (some 28) _) _
    simp only [Act.put, List.setIfInBounds_toArray, List.set_cons_zero, List.set_cons_succ]
    refine up_take (i := 2) (v := ?_) (by kernel_rfl) (by kernel_rfl) (by kernel_rfl) rfl (by kernel_rfl) (by kernel_rfl) (by kernel_rfl) (fun _ _ _ h => h) (Or.inl ⟨by rfl, ?_⟩) hHeld ?_
    rotate_left
    · intro u hSu
      (go_simp) <;> (with_reducible rfl)
    change wpUp _ _ _ _ _ _ _ _ (Act.put _ (some 29) _) _
    simp only [Act.put, List.setIfInBounds_toArray, List.set_cons_zero, List.set_cons_succ]
    refine up_take (i := 3) (v := ?_) (by kernel_rfl) (by kernel_rfl) (by kernel_rfl) rfl (by kernel_rfl) (by kernel_rfl) (by kernel_rfl) (fun _ _ _ h => h) (Or.inl ⟨by rfl, ?_⟩) hHeld ?_
    rotate_left
    · intro u hSu
      have r1 := (HQ.out u (F5.out u hSu)).2
      (go_simp) <;> (with_reducible rfl)
    change wpUp _ _ _ _ _ _ _ _ (Act.put _ (some 30) _) _
    simp only [Act.put, List.setIfInBounds_toArray, List.set_cons_zero, List.set_cons_succ]
    refine up_take (i := 4) (v := ?_) (by kernel_rfl) (by kernel_rfl) (by kernel_rfl) rfl (by kernel_rfl) (by kernel_rfl) (by kernel_rfl) (fun _ _ _ h => h) (Or.inl ⟨by rfl, ?_⟩) hHeld ?_
    rotate_left
    · intro u hSu
      obtain ⟨r0, r1, r2, r3, r4, r5⟩ := FE.out u (F5.out u hSu)
      (go_simp) <;> (with_reducible rfl)
    change wpUp _ _ _ _ _ _ _ _ (Act.put _ (some 31) _) _
    simp only [Act.put, List.setIfInBounds_toArray, List.set_cons_zero, List.set_cons_succ]
    refine up_ready (rs := [5]) (by kernel_rfl) (by simp) ?_
    refine AllUp.that rfl (fun K hK => ?_) AllUp.nil
    go_simp
    go_at_call 46
    refine (CAD.out _ (HQ.out _ (F5.out _ hHeld)).1).mono ?_
    rintro e w9 ⟨rfl, hd9⟩
    have G9 : Hid (ParL w w9 q s tb mm M XS XT ⟨P.S, ad.2, P.O⟩) := hd9; clear hd9
    refine hK.out _ _ ?_
    clear hK K hHeld
    refine up_after (i := 6) (v := ?_) (by kernel_rfl) (by kernel_rfl) rfl (Or.inl ⟨by rfl, ?_⟩) ?_
    rotate_left
    · intro u hSu
      (go_simp) <;> (with_reducible rfl)
    change wpUp _ _ _ _ _ _ _ _ (Act.put _ (some 4) _) _
    simp only [Act.put, List.setIfInBounds_toArray, List.set_cons_zero, List.set_cons_succ]
    refine up_done (by kernel_rfl) ?_
    refine NoPanic.normal ?_
    go_wp2
    go_ret
    exact ⟨by rw [HF.out]; rfl, by rw [HF.out]; exact G9.out⟩
end Go.Proofs.YtileidbdmpeciaaGreat
