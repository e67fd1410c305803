/-
  What the landed parts answer and leave: Abort, Commit (package part).
-/
import Derived.Test.YtileidbdmpeciaaGreatAu87
import Derived.Test.YtileidbdmpeciaaGreatAu112
import Derived.Test.YtileidbdmpeciaaGreatAu101
import Derived.Test.YtileidbdmpeciaaGreatAu108
namespace Go.Proofs.YtileidbdmpeciaaGreat
open Go.RowKit
set_option linter.unusedVariables false
set_option linter.unusedSimpArgs false

set_option maxHeartbeats 4000000 in
theorem pabort_any {p s t m : Nat} {P : PSt} {M : List EntM} {XS XT : Foot} (id : Int) (hid : I64 id) (w : World) (h : ParI w p s t m P M XS XT) (K : PstK P) (hO : P.O.length ≤ 1000000) :
    Calls Tryz.prog 17 #[.pointer (some ⟨p, 0, none⟩), .int .i64 id] w fun e w' => e = .returned (.int .i64 (abortP P id).1) ∧ ParL w w' p s t m M XS XT (abortP P id).2 := by
  obtain ⟨Z, hZ⟩ : ∃ Z, Z = abortP P id := ⟨_, rfl⟩
  obtain ⟨R, hR⟩ : ∃ R, R = stateP P id := ⟨_, rfl⟩
  rw [← hZ]
  have HP : Hid (ParI w p s t m P M XS XT) := h
  have CS : Hid (Calls Tryz.prog 19 #[.pointer (some ⟨p, 0, none⟩), .int .i64 id] w fun e w' => e = .returned (.int .i64 R) ∧ Below w.heap.size w w') := by rw [hR]; exact pstate_any id hid w h K.opn
  have HZ : Hid (Z = if id < 1 then (1, P) else if R = 2 then (10, P) else if R = 3 then (0, P) else (0, ⟨P.S, dropT P.T id, P.O ++ [(id, 3)]⟩)) := by
    show _ = _
    rw [hZ, hR]
    rfl
  have CE : Hid (1 ≤ id → R ≠ 2 → ∀ u, Below w.heap.size w u → Calls Tryz.prog 51 #[.pointer (some ⟨p, 0, none⟩), .int .i64 id, .int .i64 3] u fun e w' => (∃ v, e = .returned v) ∧ ParL w w' p s t m M XS XT Z.2) := fun h1 h2 u hu => by
    have hz := HZ.out
    rw [if_neg (by omega), if_neg h2] at hz
    by_cases h3 : R = 3
    · rw [if_pos h3] at hz
      have h9 := state_three (hR.symm.trans h3)
      refine (pend_any id 3 hid u (h.past hu) P.O hO (.inr ⟨h9, rfl⟩)).mono ?_
      rintro e w' ⟨hv, hl⟩
      rw [drop_over K h9] at hl
      rw [hz]
      exact ⟨hv, ParL.since h hu hl⟩
    · rw [if_neg h3] at hz
      have h9 := over_none K (hR ▸ h2) (hR ▸ h3)
      refine (pend_any id 3 hid u (h.past hu) (P.O ++ [(id, 3)]) hO (.inl ⟨h9, rfl⟩)).mono ?_
      rintro e w' ⟨hv, hl⟩
      rw [hz]
      exact ⟨hv, ParL.since h hu hl⟩
  have HZ1 : Hid (1 ≤ id → R ≠ 2 → Z.1 = 0) := fun h1 h2 => by
    have hz := HZ.out
    rw [if_neg (by omega), if_neg h2] at hz
    split at hz <;> rw [hz]
  clear h K hO hZ hR hid
  by_cases h1 : id < 1
  · have HF : Hid (Z = (1, P)) := by have := HZ.out; rw [if_pos h1] at this; exact this
    go_enter Tryz.func17, Tryz.ntmps17
    go_wp2
    go_ret
    exact ⟨by rw [HF.out]; rfl, by rw [HF.out]; exact HP.out.stay (Below.refl _ _)⟩
  by_cases h2 : R = 2
  · have HF : Hid (Z = (10, P)) := by have := HZ.out; rw [if_neg h1, if_pos h2] at this; exact this
    subst h2
    go_enter Tryz.func17, Tryz.ntmps17
    go_wp2_with (first | (go_at_call 19; refine CS.out.mono ?_; rintro e w2 ⟨rfl, hb⟩; have G1 : Hid (Below w.heap.size w w2) := hb; clear hb))
    go_ret
    exact ⟨by rw [HF.out]; rfl, by rw [HF.out]; exact HP.out.stay G1.out⟩
  have CE2 : Hid _ := CE.out (by omega) h2
  have HF : Hid (Z.1 = 0) := HZ1.out (by omega) h2
  have h2b : (R == 2) = false := by simpa using h2
  clear h2 CE HZ1
  go_enter Tryz.func17, Tryz.ntmps17
  go_wp2_with (first
    | (have hgo := G1.out; clear hgo; go_at_call 51; refine (CE2.out _ G1.out).mono ?_; rintro e w3 ⟨⟨v, rfl⟩, hl⟩; have G3 : Hid (ParL w w3 p s t m M XS XT Z.2) := hl; clear hl)
    | (go_at_call 19; refine CS.out.mono ?_; rintro e w2 ⟨rfl, hb⟩; have G1 : Hid (Below w.heap.size w w2) := hb; clear hb))
  go_ret
  exact ⟨by rw [HF.out]; rfl, G3.out⟩
set_option maxHeartbeats 8000000 in
set_option maxRecDepth 8000 in
theorem pcommit_any {q s tb mm : Nat} {P : PSt} {M : List EntM} {XS XT : Foot} (id t n : Int) (hid : I64 id) (hn : 0 ≤ n ∧ n ≤ 255) (w : World) (h : ParI w q s tb mm P M XS XT) (K : PstK P) (hO : P.O.length ≤ 1000000) :
    Calls Tryz.prog 12 #[.pointer (some ⟨q, 0, none⟩), .int .i64 id, .agg #[.int .i64 t, .int .u8 n]] w fun e w' => e = .returned (.int .i64 (commitP P id t n).1) ∧ ParL w w' q s tb mm M XS XT (commitP P id t n).2 := by
  obtain ⟨S, T, O⟩ := P
  obtain rfl : ents M = T := h.is
  obtain ⟨Z, hZ⟩ : ∃ Z, Z = commitP ⟨S, ents M, O⟩ id t n := ⟨_, rfl⟩
  rw [← hZ]
  have hst := state_cases (S := S) (M := M) K.how id
  obtain ⟨R, hR⟩ : ∃ R, R = stateP ⟨S, ents M, O⟩ id := ⟨_, rfl⟩
  obtain ⟨g, hg⟩ : ∃ g, g = decide (okS t) := ⟨_, rfl⟩
  obtain ⟨W0, hW0⟩ : ∃ u, u = w.alloc (.cells #[.int .i64 t, .int .u8 n] 28) := ⟨_, rfl⟩
  have HW0 : Hid (w.alloc (.cells #[.int .i64 t, .int .u8 n] 28) = W0) := hW0.symm
  have hb0 : Below w.heap.size w W0 := by rw [hW0]; exact (Below.refl _ _).alloc (Nat.le_refl _) _
  have e0 : W0.heap.size = w.heap.size + 1 := by rw [hW0]; simp
  have HB0 : Hid (Below w.heap.size w W0) := hb0
  have FSS : Hid (∀ u, Below W0.heap.size W0 u → u.cell? ⟨w.heap.size, 0, none⟩ = some (.int .i64 t) ∧ u.cell? ⟨w.heap.size, 1, none⟩ = some (.int .u8 n)) := fun u hu => by
    refine ⟨(hu.cell (p := ⟨w.heap.size, 0, none⟩) (by show w.heap.size < _; omega)).trans ?_, (hu.cell (p := ⟨w.heap.size, 1, none⟩) (by show w.heap.size < _; omega)).trans ?_⟩
    · rw [hW0, World.cell?_alloc_new]; rfl
    · rw [hW0, World.cell?_alloc_new]; rfl
  have HP : Hid (ParI w q s tb mm ⟨S, ents M, O⟩ M XS XT) := h
  have HK : Hid (PstK ⟨S, ents M, O⟩) := K
  have HO : Hid (O.length ≤ 1000000) := hO
  have HID : Hid (I64 id) := hid
  have HNN : Hid (0 ≤ n ∧ n ≤ 255) := hn
  have HRO : Hid (R = stateP ⟨S, ents M, O⟩ id) := hR
  have CG : Hid (∀ u, Calls Tryz.prog 47 #[.agg #[.int .i64 t, .int .u8 n]] u fun e w' => e = .returned (.bool g) ∧ Below u.heap.size u w') := fun u => by rw [hg]; exact sgood_any t n u
  have CS : Hid (∀ u, Below w.heap.size w u → Calls Tryz.prog 19 #[.pointer (some ⟨q, 0, none⟩), .int .i64 id] u fun e w' => e = .returned (.int .i64 R) ∧ Below u.heap.size u w') := fun u hu => by
    rw [hR]
    exact pstate_any id hid u (h.past hu) K.opn
  have HZ : Hid (Z = if g = false then (1, ⟨S, ents M, O⟩) else if R = 2 then (0, ⟨S, ents M, O⟩) else if R = 3 then (10, ⟨S, ents M, O⟩) else match hasM M id with
      | none => (4, ⟨S, ents M, O⟩)
      | some x => if cmpS t n x.e.t x.e.n < 0 then (1, ⟨S, ents M, O⟩) else if (applyV S t n x.e.l).1 ≠ 0 then ((applyV S t n x.e.l).1, ⟨S, ents M, O⟩) else (0, ⟨(applyV S t n x.e.l).2, dropT (ents M) id, O ++ [(id, 2)]⟩)) := by
    show _ = _
    rw [hZ, hR, hg]
    unfold commitP
    rw [← hasM_e M id]
    cases hasM M id <;> rfl
  have CH : Hid (∀ u, Below w.heap.size w u → Calls Tryz.prog 48 #[.pointer (some ⟨tb, 0, none⟩), .int .i64 id] u fun e w' => (∃ Y, e = .returned (.tuple #[ev Y, .bool (hasM M id).isSome]) ∧ EntOf w' u.heap.size Y (orE (hasM M id)).e) ∧ Below u.heap.size u w') := fun u hu => phas_any tb M XT id u (h.past hu).tab
  have HC1 : Hid (∀ u, Below w.heap.size w u → u.cell? ⟨q, 0, none⟩ = some (.pointer (some ⟨s, 0, none⟩)) ∧ u.cell? ⟨q, 1, none⟩ = some (.pointer (some ⟨tb, 0, none⟩))) := fun u hu => ⟨(h.past hu).c0, (h.past hu).c1⟩
  rw [← hR] at hst
  have HST : Hid _ := hst
  clear h K hO hR hZ hW0 hg e0 hst hb0 hid hn
  cases g with
  | false =>
    have HF : Hid (Z = (1, ⟨S, ents M, O⟩)) := by have := HZ.out; rw [if_pos rfl] at this; exact this
    go_enter Tryz.func12, Tryz.ntmps12
    go_wp2_with (first | (go_at_call 47; refine (CG.out _).mono ?_; rintro e w1 ⟨rfl, hb⟩; rw [HW0.out] at hb; have G1 : Hid (Below w.heap.size w w1) := HB0.out.trans (hb.mono HB0.out.size); clear hb))
    go_ret
    exact ⟨by rw [HF.out]; rfl, by rw [HF.out]; exact HP.out.stay G1.out⟩
  | true =>
  have HZ2 := HZ.out
  rw [if_neg (by decide)] at HZ2
  by_cases h2 : R = 2
  · have HF : Hid (Z = (0, ⟨S, ents M, O⟩)) := by rw [if_pos h2] at HZ2; exact HZ2
    clear HZ2 HRO
    subst h2
    go_enter Tryz.func12, Tryz.ntmps12
    go_wp2_with (first | (have hgo := G1.out; clear hgo; go_at_call 19; refine (CS.out _ G1.out).mono ?_; rintro e w2 ⟨rfl, hb⟩; have G2 : Hid (Below w.heap.size w w2) := G1.out.trans (hb.mono G1.out.size); clear hb) | (go_at_call 47; refine (CG.out _).mono ?_; rintro e w1 ⟨rfl, hb⟩; rw [HW0.out] at hb; have G1 : Hid (Below w.heap.size w w1) := HB0.out.trans (hb.mono HB0.out.size); clear hb))
    go_ret
    exact ⟨by rw [HF.out]; rfl, by rw [HF.out]; exact HP.out.stay G2.out⟩
  by_cases h3 : R = 3
  · have HF : Hid (Z = (10, ⟨S, ents M, O⟩)) := by rw [if_neg h2, if_pos h3] at HZ2; exact HZ2
    clear HZ2 HRO
    subst h3
    go_enter Tryz.func12, Tryz.ntmps12
    go_wp2_with (first | (have hgo := G1.out; clear hgo; go_at_call 19; refine (CS.out _ G1.out).mono ?_; rintro e w2 ⟨rfl, hb⟩; have G2 : Hid (Below w.heap.size w w2) := G1.out.trans (hb.mono G1.out.size); clear hb) | (go_at_call 47; refine (CG.out _).mono ?_; rintro e w1 ⟨rfl, hb⟩; rw [HW0.out] at hb; have G1 : Hid (Below w.heap.size w w1) := HB0.out.trans (hb.mono HB0.out.size); clear hb))
    go_ret
    exact ⟨by rw [HF.out]; rfl, by rw [HF.out]; exact HP.out.stay G2.out⟩
  rw [if_neg h2, if_neg h3] at HZ2
  have HOV : Hid (overP O id = none) := over_none HK.out (HRO.out ▸ h2) (HRO.out ▸ h3)
  clear HRO
  rcases HST.out with e | ⟨rfl, e⟩ | ⟨rfl, ⟨⟨⟨I, SS, SM, TT, TN, lw⟩, aw, cw⟩, e⟩⟩
  · exact (e.elim h2 h3).elim
  · have HF : Hid (Z = (4, ⟨S, ents M, O⟩)) := by rw [e] at HZ2; exact HZ2
    clear HZ2 h2 h3
    go_enter Tryz.func12, Tryz.ntmps12
    go_wp2_with (first | (have hgo := G1.out; clear hgo; go_at_call 19; refine (CS.out _ G1.out).mono ?_; rintro e w2 ⟨rfl, hb⟩; have G2 : Hid (Below w.heap.size w w2) := G1.out.trans (hb.mono G1.out.size); clear hb) | (go_at_call 47; refine (CG.out _).mono ?_; rintro e w1 ⟨rfl, hb⟩; rw [HW0.out] at hb; have G1 : Hid (Below w.heap.size w w1) := HB0.out.trans (hb.mono HB0.out.size); clear hb))
    go_ret
    exact ⟨by rw [HF.out]; rfl, by rw [HF.out]; exact HP.out.stay G2.out⟩
  rw [e] at HZ2
  simp only at HZ2
  obtain ⟨nw, hnw⟩ : ∃ n, n = lw.length := ⟨_, rfl⟩
  have HNW : Hid (lw.length = nw) := hnw.symm
  have CH2 : Hid (∀ u, Below w.heap.size w u → Calls Tryz.prog 48 #[.pointer (some ⟨tb, 0, none⟩), .int .i64 id] u fun e w' => (∃ ya yc, e = .returned (.tuple #[.agg #[.int .i64 I, .int .i64 SS, .int .u8 SM, .int .i64 TT, .int .u8 TN, .slice ya nw yc], .bool true]) ∧ Hid ((nw ≤ yc ∧ nw ≤ 1000000) ∧ WrtsAt w' ya lw ∧ (lw ≠ [] → Far ya XS))) ∧ Below u.heap.size u w') := fun u hu => by
    refine (CH.out u hu).mono ?_
    rw [e]
    rintro e2 w' ⟨⟨⟨ye, ya, yc⟩, rfl, hY⟩, hb⟩
    obtain ⟨y1, y2, y3⟩ := hY
    obtain rfl : ye = ⟨I, SS, SM, TT, TN, lw⟩ := y1
    refine ⟨⟨ya, yc, by rw [hnw]; rfl, ⟨by rw [hnw]; exact y2.room, by rw [hnw]; exact y2.few⟩, y2.wr, fun hl b o hx hX => ?_⟩, hb⟩
    have := y3 hl b o hx
    have := HP.out.sto.lt b hX
    have := hu.size
    omega
  have CA : Hid (∀ u ya yc, Below w.heap.size w u → (nw ≤ yc ∧ nw ≤ 1000000) → WrtsAt u ya lw → (lw ≠ [] → Far ya XS) → Calls Tryz.prog 50 #[.pointer (some ⟨s, 0, none⟩), .agg #[.int .i64 t, .int .u8 n], .slice ya nw yc] u fun e w' => e = .returned (.int .i64 (applyV S t n lw).1) ∧ ParL w w' q s tb mm M XS XT ⟨(applyV S t n lw).2, ents M, O⟩) := fun u ya yc hu hr hw hf => by
    refine (sapply_any s S XS t n HNN.out ya nw yc lw u (HP.out.past hu).sto HNW.out hr.1 hr.2 hw hf).mono ?_
    rintro e w' ⟨rfl, XS', d1, d2⟩
    exact ⟨rfl, ParL.since HP.out hu ((HP.out.past hu).turnS d1 d2)⟩
  obtain ⟨c, hc⟩ : ∃ c, c = cmpS t n TT TN := ⟨_, rfl⟩
  have CC : Hid (∀ u, Calls Tryz.prog 49 #[.agg #[.int .i64 t, .int .u8 n], .agg #[.int .i64 TT, .int .u8 TN]] u fun e w' => e = .returned (.int .i64 c) ∧ Below u.heap.size u w') := fun u => by rw [hc]; exact scmp_any t n TT TN u
  rw [← hc] at HZ2
  clear hc hnw e h2 h3 CH
  by_cases h4 : c < 0
  · have HF : Hid (Z = (1, ⟨S, ents M, O⟩)) := by rw [if_pos h4] at HZ2; exact HZ2
    clear HZ2
    go_enter Tryz.func12, Tryz.ntmps12
    go_wp2_with (first
      | (have hgo := G3.out; clear hgo; go_at_call 49; refine (CC.out _).mono ?_; rintro e w4 ⟨rfl, hb⟩; have G4 : Hid (Below w.heap.size w w4) := (G3.out.alloc G3.out.size _).trans (hb.mono (G3.out.alloc G3.out.size _).size); clear hb)
      | (have hgo := G2.out; clear hgo; go_at_call 48; refine (CH2.out _ G2.out).mono ?_; rintro e w3 ⟨⟨ya, yc, rfl, HY⟩, hb⟩; have G3 : Hid (Below w.heap.size w w3) := G2.out.trans (hb.mono G2.out.size); have H3 : Hid (Below W0.heap.size W0 w3) := H2.out.trans (hb.mono H2.out.size); have s0 : ∀ o, (w3.alloc o).cell? ⟨w.heap.size, 0, none⟩ = some (.int .i64 t) := fun o => (FSS.out (w3.alloc o) (H3.out.alloc H3.out.size o)).1; have s1 : ∀ o, (w3.alloc o).cell? ⟨w.heap.size, 1, none⟩ = some (.int .u8 n) := fun o => (FSS.out (w3.alloc o) (H3.out.alloc H3.out.size o)).2; clear hb)
      | (have hgo := G1.out; clear hgo; go_at_call 19; refine (CS.out _ G1.out).mono ?_; rintro e w2 ⟨rfl, hb⟩; have G2 : Hid (Below w.heap.size w w2) := G1.out.trans (hb.mono G1.out.size); have H2 : Hid (Below W0.heap.size W0 w2) := H1.out.trans (hb.mono H1.out.size); obtain ⟨q0, q1⟩ := HC1.out w2 G2.out; clear hb)
      | (go_at_call 47; refine (CG.out _).mono ?_; rintro e w1 ⟨rfl, hb⟩; rw [HW0.out] at hb; have G1 : Hid (Below w.heap.size w w1) := HB0.out.trans (hb.mono HB0.out.size); have H1 : Hid (Below W0.heap.size W0 w1) := hb; clear hb))
    go_ret
    exact ⟨by rw [HF.out]; rfl, by rw [HF.out]; exact HP.out.stay G4.out⟩
  have AF : Hid ((applyV S t n lw).1 ≠ 0 → (applyV S t n lw).2 = S) := apply_fail
  obtain ⟨⟨f, S'⟩, hf⟩ : ∃ x, x = applyV S t n lw := ⟨_, rfl⟩
  rw [← hf] at CA AF HZ2
  simp only at CA AF HZ2
  rw [if_neg h4] at HZ2
  clear hf
  have CE : Hid (∀ u, ParL w u q s tb mm M XS XT ⟨S', ents M, O⟩ → Calls Tryz.prog 51 #[.pointer (some ⟨q, 0, none⟩), .int .i64 id, .int .i64 2] u fun e w' => (∃ v, e = .returned v) ∧ ParL w w' q s tb mm M XS XT ⟨S', dropT (ents M) id, O ++ [(id, 2)]⟩) := fun u hl => by
    obtain ⟨M5, XS5, XT5, d1, d2⟩ := hl
    refine (pend_any id 2 HID.out u d1 (O ++ [(id, 2)]) HO.out (.inl ⟨HOV.out, rfl⟩)).mono ?_
    rintro e w' ⟨hv, hl2⟩
    obtain ⟨M6, XS6, XT6, x1, x2, x3⟩ := hl2
    exact ⟨hv, M6, XS6, XT6, x1, d2.1.trans x2, newW_trans d2.2 x3 d2.1.chg.size⟩
  have WALK : Hid True := trivial
  by_cases h5 : f = 0
  · have HF : Hid (Z = (0, ⟨S', dropT (ents M) id, O ++ [(id, 2)]⟩)) := by rw [if_neg (fun hne => hne h5)] at HZ2; exact HZ2
    clear HZ2 AF
    subst h5
    go_enter Tryz.func12, Tryz.ntmps12
    go_wp2_with (first
      | (have hgo := G3.out; clear hgo; go_at_call 49; refine (CC.out _).mono ?_; rintro e w4 ⟨rfl, hb⟩; have z5 := ent5 hb; have G4 : Hid (Below w.heap.size w w4) := (G3.out.alloc G3.out.size _).trans (hb.mono (G3.out.alloc G3.out.size _).size); have H4 : Hid (Below W0.heap.size W0 w4) := (H3.out.alloc H3.out.size _).trans (hb.mono (H3.out.alloc H3.out.size _).size); have Z5 : Hid (w4.cell? ⟨w3.heap.size, 5, none⟩ = some (.slice ya nw yc) ∧ w3.heap.size < w4.heap.size) := ⟨z5, cell_lt z5⟩; have HY4 : Hid (WrtsAt w4 ya lw) := (HY.out.2.1.past ((Below.refl _ _).alloc (Nat.le_refl _) _)).past hb; clear hb z5)
      | (have hgo := G2.out; clear hgo; go_at_call 48; refine (CH2.out _ G2.out).mono ?_; rintro e w3 ⟨⟨ya, yc, rfl, HY⟩, hb⟩; have G3 : Hid (Below w.heap.size w w3) := G2.out.trans (hb.mono G2.out.size); have H3 : Hid (Below W0.heap.size W0 w3) := H2.out.trans (hb.mono H2.out.size); have s0 : ∀ o, (w3.alloc o).cell? ⟨w.heap.size, 0, none⟩ = some (.int .i64 t) := fun o => (FSS.out (w3.alloc o) (H3.out.alloc H3.out.size o)).1; have s1 : ∀ o, (w3.alloc o).cell? ⟨w.heap.size, 1, none⟩ = some (.int .u8 n) := fun o => (FSS.out (w3.alloc o) (H3.out.alloc H3.out.size o)).2; clear hb)
      | (have hgo := G1.out; clear hgo; go_at_call 19; refine (CS.out _ G1.out).mono ?_; rintro e w2 ⟨rfl, hb⟩; have G2 : Hid (Below w.heap.size w w2) := G1.out.trans (hb.mono G1.out.size); have H2 : Hid (Below W0.heap.size W0 w2) := H1.out.trans (hb.mono H1.out.size); obtain ⟨q0, q1⟩ := HC1.out w2 G2.out; clear hb)
      | (go_at_call 47; refine (CG.out _).mono ?_; rintro e w1 ⟨rfl, hb⟩; rw [HW0.out] at hb; have G1 : Hid (Below w.heap.size w w1) := HB0.out.trans (hb.mono HB0.out.size); have H1 : Hid (Below W0.heap.size W0 w1) := hb; clear hb))
    have FW4 : Hid (∀ u, Below w4.heap.size w4 u → Below w.heap.size w u ∧ u.cell? ⟨q, 0, none⟩ = some (.pointer (some ⟨s, 0, none⟩)) ∧ u.cell? ⟨w.heap.size, 0, none⟩ = some (.int .i64 t) ∧ u.cell? ⟨w.heap.size, 1, none⟩ = some (.int .u8 n) ∧ u.cell? ⟨w3.heap.size, 5, none⟩ = some (.slice ya nw yc)) := fun u hu => ⟨G4.out.trans (hu.mono G4.out.size), (HC1.out u (G4.out.trans (hu.mono G4.out.size))).1, (FSS.out u (H4.out.trans (hu.mono H4.out.size))).1, (FSS.out u (H4.out.trans (hu.mono H4.out.size))).2, (hu.cell (p := ⟨w3.heap.size, 5, none⟩) Z5.out.2).trans Z5.out.1⟩
    clear q0 q1 s0 s1
    refine wp_region_noPanic ?_
    refine region_up 7 (fun u => Below w4.heap.size w4 u) (by kernel_rfl) ?_ (fun hHeld => ?_)
    · exact (Below.refl _ _).drew
    refine up_take (i := 0) (v := ?_) (by kernel_rfl) (by kernel_rfl) (by kernel_rfl) rfl (by kernel_rfl) (by kernel_rfl) (by kernel_rfl) (fun _ _ _ h => h) (Or.inl ⟨by rfl, ?_⟩) hHeld ?_
    rotate_left
    · intro u hSu
      (go_simp) <;> (with_reducible rfl)
    change wpUp _ _ _ _ _ _ _ _ (Act.put _ (some 36) _) _
    simp only [Act.put, List.setIfInBounds_toArray, List.set_cons_zero, List.set_cons_succ]
    refine up_take (i := 1) (v := ?_) (by kernel_rfl) (by kernel_rfl) (by kernel_rfl) rfl (by kernel_rfl) (by kernel_rfl) (by kernel_rfl) (fun _ _ _ h => h) (Or.inl ⟨by rfl, ?_⟩) hHeld ?_
    rotate_left
    · intro u hSu
      (go_simp) <;> (with_reducible rfl)
    change wpUp _ _ _ _ _ _ _ _ (Act.put _ (some 37) _) _
    simp only [Act.put, List.setIfInBounds_toArray, List.set_cons_zero, List.set_cons_succ]
    refine up_take (i := 2) (v := ?_) (by kernel_rfl) (by kernel_rfl) (by kernel_rfl) rfl (by kernel_rfl) (by kernel_rfl) (by kernel_rfl) (fun _ _ _ h => h) (Or.inl ⟨by rfl, ?_⟩) hHeld ?_
    rotate_left
    · intro u hSu
      (go_simp) <;> (with_reducible rfl)
    change wpUp _ _ _ _ _ _ _ _ (Act.put _ (some 38) _) _
    simp only [Act.put, List.setIfInBounds_toArray, List.set_cons_zero, List.set_cons_succ]
    refine up_take (i := 3) (v := ?_) (by kernel_rfl) (by kernel_rfl) (by kernel_rfl) rfl (by kernel_rfl) (by kernel_rfl) (by kernel_rfl) (fun _ _ _ h => h) (Or.inl ⟨by rfl, ?_⟩) hHeld ?_
    rotate_left
    · intro u hSu
      have q0 := (FW4.out u hSu).2.1
      (go_simp) <;> (with_reducible rfl)
    change wpUp _ _ _ _ _ _ _ _ (Act.put _ (some 39) _) _
    simp only [Act.put, List.setIfInBounds_toArray, List.set_cons_zero, List.set_cons_succ]
    refine up_take (i := 4) (v := ?_) (by kernel_rfl) (by kernel_rfl) (by kernel_rfl) rfl (by kernel_rfl) (by kernel_rfl) (by kernel_rfl) (fun _ _ _ h => h) (Or.inl ⟨by rfl, ?_⟩) hHeld ?_
    rotate_left
    · intro u hSu
      obtain ⟨_, _, s0, s1, _⟩ := FW4.out u hSu
      (go_simp) <;> (with_reducible rfl)
    change wpUp _ _ _ _ _ _ _ _ (Act.put _ (some 40) _) _
    simp only [Act.put, List.setIfInBounds_toArray, List.set_cons_zero, List.set_cons_succ]
    refine up_take (i := 5) (v := ?_) (by kernel_rfl) (by kernel_rfl) (by kernel_rfl) rfl (by kernel_rfl) (by kernel_rfl) (by kernel_rfl) (fun _ _ _ h => h) (Or.inl ⟨by rfl, ?_⟩) hHeld ?_
    rotate_left
    · intro u hSu
      (go_simp) <;> (with_reducible rfl)
    change wpUp _ _ _ _ _ _ _ _ (Act.put _ (some 41) _) _
    simp only [Act.put, List.setIfInBounds_toArray, List.set_cons_zero, List.set_cons_succ]
    refine up_take (i := 6) (v := ?_) (by kernel_rfl) (by kernel_rfl) (by kernel_rfl) rfl (by kernel_rfl) (by kernel_rfl) (by kernel_rfl) (fun _ _ _ h => h) (Or.inl ⟨by rfl, ?_⟩) hHeld ?_
    rotate_left
    · intro u hSu
      have z5 := (FW4.out u hSu).2.2.2.2
      (go_simp) <;> (with_reducible rfl)
    change wpUp _ _ _ _ _ _ _ _ (Act.put _ (some 42) _) _
    simp only [Act.put, List.setIfInBounds_toArray, List.set_cons_zero, List.set_cons_succ]
    refine up_ready (rs := [7]) (by kernel_rfl) (by simp) ?_
    refine AllUp.that rfl (fun K hK => ?_) AllUp.nil
    go_simp
    go_at_call 50
    refine (CA.out _ _ _ (FW4.out _ hHeld).1 HY.out.1 (HY4.out.past hHeld) HY.out.2.2).mono ?_
    rintro e w5 ⟨rfl, d1⟩
    have G5 : Hid (ParL w w5 q s tb mm M XS XT ⟨S', ents M, O⟩) := d1; clear d1
    refine hK.out _ _ ?_
    clear hK K hHeld
    refine up_after (i := 8) (v := ?_) (by kernel_rfl) (by kernel_rfl) rfl (Or.inl ⟨by rfl, ?_⟩) ?_
    rotate_left
    · intro u hSu
      (go_simp) <;> (with_reducible rfl)
    change wpUp _ _ _ _ _ _ _ _ (Act.put _ (some 9) _) _
    simp only [Act.put, List.setIfInBounds_toArray, List.set_cons_zero, List.set_cons_succ]
    refine up_done (by kernel_rfl) ?_
    refine NoPanic.normal ?_
    go_wp2_with (first
      | (have hgo := G5.out; clear hgo; go_at_call 51; refine (CE.out _ G5.out).mono ?_; rintro e w6 ⟨⟨v6, rfl⟩, hl⟩; have G6 : Hid (ParL w w6 q s tb mm M XS XT ⟨S', dropT (ents M) id, O ++ [(id, 2)]⟩) := hl; clear hl))
    go_ret
    exact ⟨by rw [HF.out]; rfl, by rw [HF.out]; exact G6.out⟩
  · have HF : Hid (Z = (f, ⟨S', ents M, O⟩)) := by rw [if_pos h5] at HZ2; rw [AF.out h5]; exact HZ2
    have h5b : (f == 0) = false := by simpa using h5
    clear HZ2 AF h5
    go_enter Tryz.func12, Tryz.ntmps12
    go_wp2_with (first
      | (have hgo := G3.out; clear hgo; go_at_call 49; refine (CC.out _).mono ?_; rintro e w4 ⟨rfl, hb⟩; have z5 := ent5 hb; have G4 : Hid (Below w.heap.size w w4) := (G3.out.alloc G3.out.size _).trans (hb.mono (G3.out.alloc G3.out.size _).size); have H4 : Hid (Below W0.heap.size W0 w4) := (H3.out.alloc H3.out.size _).trans (hb.mono (H3.out.alloc H3.out.size _).size); have Z5 : Hid (w4.cell? ⟨w3.heap.size, 5, none⟩ = some (.slice ya nw yc) ∧ w3.heap.size < w4.heap.size) := ⟨z5, cell_lt z5⟩; have HY4 : Hid (WrtsAt w4 ya lw) := (HY.out.2.1.past ((Below.refl _ _).alloc (Nat.le_refl _) _)).past hb; clear hb z5)
      | (have hgo := G2.out; clear hgo; go_at_call 48; refine (CH2.out _ G2.out).mono ?_; rintro e w3 ⟨⟨ya, yc, rfl, HY⟩, hb⟩; have G3 : Hid (Below w.heap.size w w3) := G2.out.trans (hb.mono G2.out.size); have H3 : Hid (Below W0.heap.size W0 w3) := H2.out.trans (hb.mono H2.out.size); have s0 : ∀ o, (w3.alloc o).cell? ⟨w.heap.size, 0, none⟩ = some (.int .i64 t) := fun o => (FSS.out (w3.alloc o) (H3.out.alloc H3.out.size o)).1; have s1 : ∀ o, (w3.alloc o).cell? ⟨w.heap.size, 1, none⟩ = some (.int .u8 n) := fun o => (FSS.out (w3.alloc o) (H3.out.alloc H3.out.size o)).2; clear hb)
      | (have hgo := G1.out; clear hgo; go_at_call 19; refine (CS.out _ G1.out).mono ?_; rintro e w2 ⟨rfl, hb⟩; have G2 : Hid (Below w.heap.size w w2) := G1.out.trans (hb.mono G1.out.size); have H2 : Hid (Below W0.heap.size W0 w2) := H1.out.trans (hb.mono H1.out.size); obtain ⟨q0, q1⟩ := HC1.out w2 G2.out; clear hb)
      | (go_at_call 47; refine (CG.out _).mono ?_; rintro e w1 ⟨rfl, hb⟩; rw [HW0.out] at hb; have G1 : Hid (Below w.heap.size w w1) := HB0.out.trans (hb.mono HB0.out.size); have H1 : Hid (Below W0.heap.size W0 w1) := hb; clear hb))
    have FW4 : Hid (∀ u, Below w4.heap.size w4 u → Below w.heap.size w u ∧ u.cell? ⟨q, 0, none⟩ = some (.pointer (some ⟨s, 0, none⟩)) ∧ u.cell? ⟨w.heap.size, 0, none⟩ = some (.int .i64 t) ∧ u.cell? ⟨w.heap.size, 1, none⟩ = some (.int .u8 n) ∧ u.cell? ⟨w3.heap.size, 5, none⟩ = some (.slice ya nw yc)) := fun u hu => ⟨G4.out.trans (hu.mono G4.out.size), (HC1.out u (G4.out.trans (hu.mono G4.out.size))).1, (FSS.out u (H4.out.trans (hu.mono H4.out.size))).1, (FSS.out u (H4.out.trans (hu.mono H4.out.size))).2, (hu.cell (p := ⟨w3.heap.size, 5, none⟩) Z5.out.2).trans Z5.out.1⟩
    clear q0 q1 s0 s1
    refine wp_region_noPanic ?_
    refine region_up 7 (fun u => Below w4.heap.size w4 u) (by kernel_rfl) ?_ (fun hHeld => ?_)
    · exact (Below.refl _ _).drew
    refine up_take (i := 0) (v := ?_) (by kernel_rfl) (by kernel_rfl) (by kernel_rfl) rfl (by kernel_rfl) (by kernel_rfl) (by kernel_rfl) (fun _ _ _ h => h) (Or.inl ⟨by rfl, ?_⟩) hHeld ?_
    rotate_left
    · intro u hSu
      (go_simp) <;> (with_reducible rfl)
    change wpUp _ _ _ _ _ _ _ _ (Act.put _ (some 36) _) _
    simp only [Act.put, List.setIfInBounds_toArray, List.set_cons_zero, List.set_cons_succ]
    refine up_take (i := 1) (v := ?_) (by kernel_rfl) (by kernel_rfl) (by kernel_rfl) rfl (by kernel_rfl) (by kernel_rfl) (by kernel_rfl) (fun _ _ _ h => h) (Or.inl ⟨by rfl, ?_⟩) hHeld ?_
    rotate_left
    · intro u hSu
      (go_simp) <;> (with_reducible rfl)
    change wpUp _ _ _ _ _ _ _ _ (Act.put _ (some 37) _) _
    simp only [Act.put, List.setIfInBounds_toArray, List.set_cons_zero, List.set_cons_succ]
    refine up_take (i := 2) (v := ?_) (by kernel_rfl) (by kernel_rfl) (by kernel_rfl) rfl (by kernel_rfl) (by kernel_rfl) (by kernel_rfl) (fun _ _ _ h => h) (Or.inl ⟨by rfl, ?_⟩) hHeld ?_
    rotate_left
    · intro u hSu
      (go_simp) <;> (with_reducible rfl)
    change wpUp _ _ _ _ _ _ _ _ (Act.put _ (some 38) _) _
    simp only [Act.put, List.setIfInBounds_toArray, List.set_cons_zero, List.set_cons_succ]
    refine up_take (i := 3) (v := ?_) (by kernel_rfl) (by kernel_rfl) (by kernel_rfl) rfl (by kernel_rfl) (by kernel_rfl) (by kernel_rfl) (fun _ _ _ h => h) (Or.inl ⟨by rfl, ?_⟩) hHeld ?_
    rotate_left
    · intro u hSu
      have q0 := (FW4.out u hSu).2.1
      (go_simp) <;> (with_reducible rfl)
    change wpUp _ _ _ _ _ _ _ _ (Act.put _ (some 39) _) _
    simp only [Act.put, List.setIfInBounds_toArray, List.set_cons_zero, List.set_cons_succ]
    refine up_take (i := 4) (v := ?_) (by kernel_rfl) (by kernel_rfl) (by kernel_rfl) rfl (by kernel_rfl) (by kernel_rfl) (by kernel_rfl) (fun _ _ _ h => h) (Or.inl ⟨by rfl, ?_⟩) hHeld ?_
    rotate_left
    · intro u hSu
      obtain ⟨_, _, s0, s1, _⟩ := FW4.out u hSu
      (go_simp) <;> (with_reducible rfl)
    change wpUp _ _ _ _ _ _ _ _ (Act.put _ (some 40) _) _
    simp only [Act.put, List.setIfInBounds_toArray, List.set_cons_zero, List.set_cons_succ]
    refine up_take (i := 5) (v := ?_) (by kernel_rfl) (by kernel_rfl) (by kernel_rfl) rfl (by kernel_rfl) (by kernel_rfl) (by kernel_rfl) (fun _ _ _ h => h) (Or.inl ⟨by rfl, ?_⟩) hHeld ?_
    rotate_left
    · intro u hSu
      (go_simp) <;> (with_reducible rfl)
    change wpUp _ _ _ _ _ _ _ _ (Act.put _ (some 41) _) _
    simp only [Act.put, List.setIfInBounds_toArray, List.set_cons_zero, List.set_cons_succ]
    refine up_take (i := 6) (v := ?_) (by kernel_rfl) (by kernel_rfl) (by kernel_rfl) rfl (by kernel_rfl) (by kernel_rfl) (by kernel_rfl) (fun _ _ _ h => h) (Or.inl ⟨by rfl, ?_⟩) hHeld ?_
    rotate_left
    · intro u hSu
      have z5 := (FW4.out u hSu).2.2.2.2
      (go_simp) <;> (with_reducible rfl)
    change wpUp _ _ _ _ _ _ _ _ (Act.put _ (some 42) _) _
    simp only [Act.put, List.setIfInBounds_toArray, List.set_cons_zero, List.set_cons_succ]
    refine up_ready (rs := [7]) (by kernel_rfl) (by simp) ?_
    refine AllUp.that rfl (fun K hK => ?_) AllUp.nil
    go_simp
    go_at_call 50
    refine (CA.out _ _ _ (FW4.out _ hHeld).1 HY.out.1 (HY4.out.past hHeld) HY.out.2.2).mono ?_
    rintro e w5 ⟨rfl, d1⟩
    have G5 : Hid (ParL w w5 q s tb mm M XS XT ⟨S', ents M, O⟩) := d1; clear d1
    refine hK.out _ _ ?_
    clear hK K hHeld
    refine up_after (i := 8) (v := ?_) (by kernel_rfl) (by kernel_rfl) rfl (Or.inl ⟨by rfl, ?_⟩) ?_
    rotate_left
    · intro u hSu
      (go_simp) <;> (with_reducible rfl)
    change wpUp _ _ _ _ _ _ _ _ (Act.put _ (some 9) _) _
    simp only [Act.put, List.setIfInBounds_toArray, List.set_cons_zero, List.set_cons_succ]
    refine up_done (by kernel_rfl) ?_
    refine NoPanic.normal ?_
    go_wp2
    go_ret
    exact ⟨by rw [HF.out]; rfl, by rw [HF.out]; exact G5.out⟩
end Go.Proofs.YtileidbdmpeciaaGreat
