/-
  What the document's own stores answer: Apply (hourglassref10: Store.Apply).
-/
import Derived.Test.YtileidbdmpeciaaGreatAu115
import Derived.Test.YtileidbdmpeciaaGreatRefSto2
import Derived.Test.YtileidbdmpeciaaGreatRefTrim
import Derived.Test.YtileidbdmpeciaaGreatStoL3
import Derived.Test.YtileidbdmpeciaaGreatAu84
namespace Go.Proofs.YtileidbdmpeciaaGreat
open Go.RowKit
set_option linter.unusedVariables false

theorem keys_len (M : List Ver) : (keysV M).length ≤ M.length := by
  refine snoc_cases (fun M => (keysV M).length ≤ M.length) (by simp [keysV]) (fun l x ih => ?_) M
  show (keysV (l ++ [x])).length ≤ (l ++ [x]).length
  rw [keys_snoc]
  unfold keyStep
  split <;> simp <;> omega
theorem put_not {L : List Ver} {V : Ver} (h : (putV L V).1 ≠ 0) : (putV L V).2 = L := by
  unfold putV at h ⊢
  split
  · rfl
  · split
    · rfl
    · split
      · rfl
      · rename_i h1 h2 h3
        rw [if_neg h1, if_neg h2, if_neg h3] at h
        exact absurd rfl h
theorem putv_len (L : List Ver) (V : Ver) : (putV L V).2.length ≤ L.length + 1 := by
  by_cases h : (putV L V).1 = 0
  · rw [put_grows h]; exact Nat.le_refl _
  · rw [put_not h]; omega
theorem run_drop {t n : Int} {l : List Wrt} {i : Nat} {W : Wrt} (hW : l[i]? = some W) (M : List Ver) (f : Bool) : runW t n (l.drop i) M f = if (putV M (verW t n W)).1 = 5 then (5, M, f) else runW t n (l.drop (i + 1)) (putV M (verW t n W)).2 (f || decide ((putV M (verW t n W)).1 ≠ 0)) := by
  obtain ⟨h, rfl⟩ := List.getElem?_eq_some_iff.1 hW
  rw [List.drop_eq_getElem_cons h]
  rfl
theorem own_raw (e : TypeId) (size : Nat) (w : World) : OwnB e size w (w.alloc (.cells #[] e)) (.slice (some ⟨w.heap.size, 0, none⟩) 0 0) 0 [] :=
  ⟨World.ownsRow_made w #[] 0 (Nat.le_refl _) (by unfold maxLen; omega) (by simp), (Below.refl _ _).alloc (Nat.le_refl _) _⟩
/-- The document's store that a call has made. -/
structure Two (U u : World) (q : Nat) (M : List Ver) : Prop where
  below : Below U.heap.size U u
  st : StoreR u U.heap.size q M
theorem Two.past {U u u' : World} {q : Nat} {M : List Ver} (h : Two U u q M) (hb : Below u.heap.size u u') : Two U u' q M := ⟨h.below.trans (hb.mono h.below.size), h.st.past hb⟩
theorem Two.made {U u : World} {a : Option Addr} {N c : Nat} {L : List Ver} (h : OwnB 127 20 U u (.slice a N c) N (L.flatMap encV)) (hN : L.length = N) (ho : OkL L) (hf : L.length ≤ 1000000) : Two U (u.alloc (.cells #[.slice a N c] 111)) u.heap.size L := by
  subst hN
  refine ⟨h.below.alloc h.below.size _, ⟨by simp, h.below.size, ⟨a, c, ?_, (h.alloc _).own, fun k e => ?_⟩, World.frozen?_alloc_new _ _ _ _, ho, hf⟩⟩
  · rw [World.cell?_alloc_new]; rfl
  · have := (h.own.lt k e).2; omega
theorem Two.put {U u : World} {q : Nat} {M : List Ver} (h : Two U u q M) (V : Ver) (hV : VerOk V) (hM : M.length + 1 ≤ 1000000) :
    Calls Tryz.prog 115 #[.pointer (some ⟨q, 0, none⟩), vv V] u fun e w' => e = .returned (.int .i64 (putV M V).1) ∧ Two U w' q (putV M V).2 :=
  (rput10_any U.heap.size q M V hV u h.st h.below.size hM).mono fun e w' ⟨h1, h2, h3⟩ => ⟨h1, ⟨h.below.trans (h3.below h.below.size (fun k hk => by rw [hk]; exact h.st.lo)), h2⟩⟩
/-- The list's cell, and where its versions lie. -/
theorem StoreR.src {u : World} {B p : Nat} {L : List Ver} (h : StoreR u B p L) : ∃ a c, L.length ≤ c ∧ (a = none → L.length = 0 ∧ c = 0) ∧ (∀ v, Below u.heap.size u v → v.cell? ⟨p, 0, none⟩ = some (.slice a L.length c)) ∧ ∀ v, Below u.heap.size u v → Lies v a (L.flatMap encV) := by
  obtain ⟨a, c, h1, h2, h3⟩ := h.list
  rcases h2.2 with ⟨e1, e2⟩ | ⟨g, cap, cur, e1, hg, hh, e5, _⟩
  · have e3 := List.eq_nil_of_length_eq_zero e2
    injection e1 with x1 x2 x3
    refine ⟨a, c, by omega, fun _ => ⟨e2, x3⟩, fun v hb => (hb.cell (p := ⟨p, 0, none⟩) h.lt).trans h1, fun v hb => ?_⟩
    rw [e3]; exact lies_nil _ _
  · injection e1 with x1 x2 x3
    subst x1
    subst x3
    refine ⟨_, c, e5, (fun e => by cases e), fun v hb => (hb.cell (p := ⟨p, 0, none⟩) h.lt).trans h1, fun v hb => (own_lies h2).past hb⟩
/-- The list of the new store laid into the old one. -/
theorem StoreR.lay {w U u : World} {B p q : Nat} {L M : List Ver} (h : StoreR w B p L) (hU : Below w.heap.size w U) (hB : B ≤ w.heap.size) (h2 : Two U u q M) {a : Option Addr} {N c : Nat} (hN : M.length = N) (hc : u.cell? ⟨q, 0, none⟩ = some (.slice a N c)) :
    StoreR (u.setCell ⟨p, 0, none⟩ (.slice a N c)) B p M ∧ Chg w (u.setCell ⟨p, 0, none⟩ (.slice a N c)) (fun k => k = p) ∧ Rowed w (u.setCell ⟨p, 0, none⟩ (.slice a N c)) p := by
  subst hN
  have hwu : Below w.heap.size w u := hU.trans (h2.below.mono hU.size)
  obtain ⟨a2, c2, e1, e2, e3⟩ := h2.st.list
  rw [hc] at e1
  injection e1 with e1
  injection e1 with x1 _ x3
  subst x1
  subst x3
  have h0 := h.past (u' := u) hwu
  obtain ⟨a0, c0, y1, _, _⟩ := h0.list
  refine ⟨⟨by rw [World.size_setCell]; exact h0.lt, h.lo, ⟨a, c, World.cell?_setCell_same _ _ _ y1, row_kept (e2.mono (Nat.le_trans hB hU.size)) (fun k e => Below.heap_setCell _ _ _ k (fun e4 => ?_)), fun k e => ?_⟩, by rw [World.frozen?_setCell]; exact h0.free, h2.st.oks, h2.st.few⟩, (Chg.of_below hwu _).trans (Chg.set (X := fun k => k = p) u ⟨p, 0, none⟩ _ rfl) (fun _ _ x => x), fun v hv g hg => .inl ?_⟩
  · have e5 : k = p := e4
    have := (e2.lt k e).1
    have := h.lt
    have := hU.size
    omega
  · have := (e2.lt k e).1
    have := h.lt
    have := hU.size
    omega
  · rw [World.cell?_setCell_same _ _ _ y1] at hv
    injection hv with hv
    rw [← hv] at hg
    exact Nat.le_trans hU.size (e2.lt g hg).1
set_option maxHeartbeats 16000000 in
set_option maxRecDepth 8000 in
theorem rapply10_any (B p : Nat) (L : List Ver) (t n : Int) (hn : 0 ≤ n ∧ n ≤ 255) (a : Option Addr) (N cap : Nat) (l : List Wrt) (hl : l.length = N) (hc : N ≤ cap) (hN : N ≤ 1000000) (w : World) (h : StoreR w B p L) (hB : B ≤ w.heap.size) (hL : L.length + 100 ≤ 1000000) (hat : WrtsAt w a l) :
    Calls Tryz.prog 69 #[.pointer (some ⟨p, 0, none⟩), .agg #[.int .i64 t, .int .u8 n], .slice a N cap] w fun e w' => e = .returned (.int .i64 (applyV L t n l).1) ∧ StoreR w' B p (applyV L t n l).2 ∧ Chg w w' (fun k => k = p) ∧ Rowed w w' p := by
  obtain ⟨V0, hV0⟩ : ∃ V0, V0 = w.alloc (.cells #[.int .i64 t, .int .u8 n] 28) := ⟨_, rfl⟩
  have HBW : Hid (Below w.heap.size w V0) := by rw [hV0]; exact (Below.refl _ _).alloc (Nat.le_refl _) _
  have HT0 : Hid (V0.cell? ⟨w.heap.size, 0, none⟩ = some (.int .i64 t) ∧ V0.cell? ⟨w.heap.size, 1, none⟩ = some (.int .u8 n)) := by
    show _ ∧ _
    rw [hV0, World.cell?_alloc_new, World.cell?_alloc_new]
    exact ⟨rfl, rfl⟩
  have HV0 : Hid (w.alloc (.cells #[.int .i64 t, .int .u8 n] 28) = V0) := hV0.symm
  have HST : Hid (StoreR w B p L) := h
  have HB' : Hid (B ≤ w.heap.size) := hB
  have HOLD : Hid (∀ u, Below w.heap.size w u → StoreR u B p L ∧ Chg w u (fun k => k = p) ∧ Rowed w u p) := fun u hb => ⟨h.past hb, Chg.of_below hb _, Rowed.of_below hb h.lt⟩
  obtain ⟨R, hR⟩ : ∃ R, R = applyV L t n l := ⟨_, rfl⟩
  have hap : R = if (decide (okS t) && mayW l 1) = false then (1, L) else
      if (runW t n l L false).1 = 5 then (5, L) else
      if ((runW t n l L false).2.2 || decide (200 < (keysV (runW t n l L false).2.1).length)) = true then (6, L) else (0, (runW t n l L false).2.1) := hR
  rw [← hR]
  obtain ⟨okb, hok⟩ : ∃ x, x = decide (okS t) := ⟨_, rfl⟩
  obtain ⟨mw, hmw⟩ : ∃ x, x = mayW l 1 := ⟨_, rfl⟩
  rw [← hok, ← hmw] at hap
  have CG : Hid (∀ u, Calls Tryz.prog 67 #[.agg #[.int .i64 t, .int .u8 n]] u fun e w' => e = .returned (.bool okb) ∧ Below u.heap.size u w') := fun u => by rw [hok]; exact rgood6_any t n u
  have CM : Hid (∀ u, Below w.heap.size w u → Calls Tryz.prog 111 #[.slice a N cap, .int .i64 1] u fun e w' => e = .returned (.bool mw) ∧ Below u.heap.size u w') := fun u hb => by rw [hmw]; exact rmayw_any a N cap l 1 u hl hc hN (by omega) (hat.past hb)
  clear hV0 hR
  cases okb with
  | false =>
    have HR : Hid (R = (1, L)) := hap
    clear hap hok hmw h hat hl
    go_enter Tryz.func69, Tryz.ntmps69
    go_wp2_with (go_at_call 67; rw [HV0.out]; refine (CG.out _).mono ?_; rintro e v1 ⟨rfl, hb1⟩; have B1 : Hid (Below V0.heap.size V0 v1) := hb1; clear hb1)
    go_ret
    rw [HR.out]
    exact ⟨rfl, HOLD.out _ (HBW.out.trans (B1.out.mono HBW.out.size))⟩
  | true =>
    cases mw with
    | false =>
      have HR : Hid (R = (1, L)) := hap
      clear hap hok hmw h hat hl
      go_enter Tryz.func69, Tryz.ntmps69
      go_wp2_with (first | (go_at_call 67; rw [HV0.out]; refine (CG.out _).mono ?_; rintro e v1 ⟨rfl, hb1⟩; have B1 : Hid (Below V0.heap.size V0 v1) := hb1; clear hb1) | (go_at_call 111; refine (CM.out _ (HBW.out.trans (B1.out.mono HBW.out.size))).mono ?_; rintro e v2 ⟨rfl, hb2⟩; have B2 : Hid (Below V0.heap.size V0 v2) := B1.out.trans (hb2.mono B1.out.size); clear hb2 B1))
      go_ret
      rw [HR.out]
      exact ⟨rfl, HOLD.out _ (HBW.out.trans (B2.out.mono HBW.out.size))⟩
    | true =>
      obtain ⟨a0, c0, hcap, hnil, hcell, hlies⟩ := h.src
      obtain ⟨N0, hN0⟩ : ∃ N0, N0 = L.length := ⟨_, rfl⟩
      rw [← hN0] at hcap hnil hcell hL
      have HN0 : Hid (L.length = N0) := hN0.symm
      have HCE : Hid (∀ v, Below w.heap.size w v → v.cell? ⟨p, 0, none⟩ = some (.slice a0 N0 c0)) := hcell
      have HLI : Hid (∀ v, Below w.heap.size w v → Lies v a0 (L.flatMap encV)) := hlies
      have HNI : Hid (a0 = none → N0 = 0 ∧ c0 = 0) := hnil
      have HLL : Hid ((L.flatMap encV).length = N0 * 20) := by show _ = _; rw [flat_len L h.oks.len, hN0]
      have HOK : Hid (OkL L) := h.oks
      have hfr := h.free
      have HFR : Hid (∀ v, Below w.heap.size w v → v.frozen? ⟨p, 0, none⟩ = false) := fun v hb => (h.past hb).free
      obtain ⟨⟨h1l, h16l⟩, hfit, hpw⟩ := may_fit.1 hmw.symm
      have hN16 : N ≤ 16 := by rw [← hl]; exact h16l
      have HFIT : Hid (∀ W ∈ l, fitW W = true) := hfit
      have hokS : okS t := by simpa using hok.symm
      have HOT : Hid (okS t) := hokS
      have HL : Hid (l.length = N) := hl
      have HA : Hid (WrtsAt w a l) := hat
      have hn0 := hn.1
      have hn1 := hn.2
      have H5 : Hid (∀ M f, runW t n l L false = (5, M, f) → R = (5, L)) := fun M f e => by rw [e] at hap; exact hap
      have HEND : Hid (∀ M f, runW t n l L false = (0, M, f) → R = if (f || decide (200 < (keysV M).length)) = true then (6, L) else (0, M)) := fun M f e => by rw [e] at hap; exact hap
      clear hap hok hmw h hat hl hcell hlies hnil hN0 h1l h16l hfit hpw hokS hfr hn
      go_enter Tryz.func69, Tryz.ntmps69
      go_wp2_with (first | (go_at_call 67; rw [HV0.out]; refine (CG.out _).mono ?_; rintro e v1 ⟨rfl, hb1⟩; have B1 : Hid (Below V0.heap.size V0 v1) := hb1; clear hb1) | (go_at_call 111; refine (CM.out _ (HBW.out.trans (B1.out.mono HBW.out.size))).mono ?_; rintro e v2 ⟨rfl, hb2⟩; have B2 : Hid (Below V0.heap.size V0 v2) := B1.out.trans (hb2.mono B1.out.size); clear hb2 B1; have BW2 : Hid (Below w.heap.size w v2) := HBW.out.trans (B2.out.mono HBW.out.size); have q0 := HCE.out (v2.alloc (.cells #[] 127)) (BW2.out.alloc BW2.out.size _)) | (at_builtin; refine wpList_own verEl (w0 := v2) rfl (.tmp 19) (.tmp 23) rfl _ 0 [] (L.flatMap encV) rfl (own_raw _ _ v2) _ _ _ rfl HLL.out (HLI.out _ (BW2.out.alloc BW2.out.size _)) (encs_one L) HNI.out N0 (Nat.zero_add _) (by omega) _ (List.nil_append _) ?_; intro a3 c3 v3 h3 h4; have O3 : Hid (OwnB 127 20 v2 v3 (.slice a3 N0 c3) N0 (L.flatMap encV)) := h3; clear h3 h4 q0))
      have H2 : Hid (Two v2 (v3.alloc (.cells #[.slice a3 N0 c3] 111)) v3.heap.size L) := Two.made O3.out HN0.out HOK.out (by rw [HN0.out]; omega)
      clear O3 CM CG
      go_loopw [8, 9] (fun fv iv wr => ∃ (i : Nat) (f : Bool) (M : List Ver), iv = .int .i64 i ∧ fv = .bool f ∧ i ≤ N ∧ Hid (Two v2 wr v3.heap.size M) ∧ Hid (runW t n l L false = runW t n (l.drop i) M f) ∧ Hid (M.length ≤ N0 + i)) (fun _ iv _ => N - (intOf iv).toNat)
      case atStart => exact ⟨0, false, L, rfl, rfl, Nat.zero_le _, H2, by rw [List.drop_zero]; rfl, by show _ ≤ _; rw [HN0.out]; omega⟩
      case round =>
        obtain ⟨i, f, M, rfl, rfl, hi, HM, HRUN, HML⟩ := hrel
        have hi0 : (0 : Int) ≤ (i : Int) := by omega
        have HBV : Hid (∀ u, Below v2.heap.size v2 u → Below w.heap.size w u) := fun u hb => BW2.out.trans (hb.mono BW2.out.size)
        by_cases hlt : i < N
        · have h1 : (i : Int) < (N : Int) := by omega
          obtain ⟨W, hW⟩ : ∃ W, l[i]? = some W := ⟨_, List.getElem?_eq_getElem (by rw [HL.out]; exact hlt)⟩
          obtain ⟨b, o, rfl, hwa, hwo⟩ := HA.out.wrt hW
          have hfw := HFIT.out W (List.mem_of_getElem? hW)
          obtain ⟨k, hk⟩ : ∃ k, k = W.k := ⟨_, rfl⟩
          obtain ⟨g, hg⟩ : ∃ g, g = W.g := ⟨_, rfl⟩
          obtain ⟨v, hv⟩ : ∃ v, v = W.v := ⟨_, rfl⟩
          have HVE : Hid (verW t n W = ⟨k, t, n, v, g⟩) := by show _ = _; rw [hk, hg, hv]; rfl
          have KY : Hid (Ky k) := by rw [hk]; exact hwo.key
          have HVO : Hid (VerOk ⟨k, t, n, v, g⟩) := by
            have ht := HOT.out
            unfold okS at ht
            refine ⟨KY.out, (by show _ ≤ t; omega), (by show t ≤ _; omega), hn0, hn1, by rw [hv]; exact hwo.val, ?_⟩
            unfold fitW at hfw
            simp only [Bool.and_eq_true, decide_eq_true_eq] at hfw
            show v.length ≤ 1000000
            rw [hv]
            have := hfw.1.2
            omega
          have FK : Hid (∀ u, Below wr.heap.size wr u → KeyAt u b (o + i * 18) k) := fun u hb => by rw [hk]; exact (hwa.past (HBV.out u (HM.out.past hb).below)).key hwo.key
          have FC : Hid (∀ u, Below wr.heap.size wr u → u.cell? ⟨b, o + i * 18 + 16, none⟩ = some (.string (strOfNums v)) ∧ u.cell? ⟨b, o + i * 18 + 17, none⟩ = some (.bool g)) := fun u hb => by rw [hv, hg]; exact (hwa.past (HBV.out u (HM.out.past hb).below)).cells hwo.key
          have FT : Hid (∀ u, Below wr.heap.size wr u → u.cell? ⟨w.heap.size, 0, none⟩ = some (.int .i64 t) ∧ u.cell? ⟨w.heap.size, 1, none⟩ = some (.int .u8 n)) := fun u hb => by
            have hb2 := B2.out.trans ((HM.out.past hb).below.mono B2.out.size)
            exact ⟨(hb2.cell (p := ⟨w.heap.size, 0, none⟩) (cell_lt HT0.out.1)).trans HT0.out.1, (hb2.cell (p := ⟨w.heap.size, 1, none⟩) (cell_lt HT0.out.2)).trans HT0.out.2⟩
          have HRD := run_drop (t := t) (n := n) hW M f
          rw [HVE.out] at HRD
          obtain ⟨c, hcc⟩ : ∃ c, c = (putV M ⟨k, t, n, v, g⟩).1 := ⟨_, rfl⟩
          obtain ⟨M2, hM2⟩ : ∃ M2, M2 = (putV M ⟨k, t, n, v, g⟩).2 := ⟨_, rfl⟩
          have CP : Hid (∀ u, Below wr.heap.size wr u → Calls Tryz.prog 115 #[.pointer (some ⟨v3.heap.size, 0, none⟩), vv ⟨k, t, n, v, g⟩] u fun e w' => e = .returned (.int .i64 c) ∧ Two v2 w' v3.heap.size M2) := fun u hb => by rw [hcc, hM2]; exact (HM.out.past hb).put _ HVO.out (by have := HML.out; omega)
          rw [← hcc, ← hM2] at HRD
          have HRS : Hid (runW t n l L false = if c = 5 then (5, M, f) else runW t n (l.drop (i + 1)) M2 (f || decide (c ≠ 0))) := HRUN.out.trans HRD
          have HML2 : Hid (M2.length ≤ N0 + (i + 1)) := by have h8 := putv_len M ⟨k, t, n, v, g⟩; have h9 := HML.out; rw [← hM2] at h8; show _ ≤ _; omega
          clear hwa hwo hfw hk hg hv hW HRD hcc hM2 HVE
          by_cases hc5 : c = 5
          · subst hc5
            have HR : Hid (R = (5, L)) := H5.out M f HRS.out
            clear HRS
            go_wp2
            refine wp_region_noPanic ?_
            refine region_up 18 (fun u => Below wr.heap.size wr u) (by kernel_rfl) ?_ (fun hHeld => ?_)
            · exact (Below.refl _ _).drew
            refine up_take (i := 0) (v := ?_) (by kernel_rfl) (by kernel_rfl) (by kernel_rfl) rfl (by kernel_rfl) (by kernel_rfl) (by kernel_rfl) (fun _ _ _ h => h) (Or.inl ⟨by rfl, ?_⟩) hHeld ?_
            rotate_left
            · intro u hSu
              (go_simp) <;> (with_reducible rfl)
            change wpUp _ _ _ _ _ _ _ _ (Act.put _ (some 33) _) _
            simp only [Act.put, List.setIfInBounds_toArray, List.set_cons_zero, List.set_cons_succ]
            refine up_take (i := 1) (v := ?_) (by kernel_rfl) (by kernel_rfl) (by kernel_rfl) rfl (by kernel_rfl) (by kernel_rfl) (by kernel_rfl) (fun _ _ _ h => h) (Or.inl ⟨by rfl, ?_⟩) hHeld ?_
            rotate_left
            · intro u hSu
              (go_simp) <;> (with_reducible rfl)
            change wpUp _ _ _ _ _ _ _ _ (Act.put _ (some 34) _) _
            simp only [Act.put, List.setIfInBounds_toArray, List.set_cons_zero, List.set_cons_succ]
            refine up_take (i := 2) (v := ?_) (by kernel_rfl) (by kernel_rfl) (by kernel_rfl) rfl (by kernel_rfl) (by kernel_rfl) (by kernel_rfl) (fun _ _ _ h => h) (Or.inl ⟨by rfl, ?_⟩) hHeld ?_
            rotate_left
            · intro u hSu
              (go_simp) <;> (with_reducible rfl)
            change wpUp _ _ _ _ _ _ _ _ (Act.put _ (some 35) _) _
            simp only [Act.put, List.setIfInBounds_toArray, List.set_cons_zero, List.set_cons_succ]
            refine up_take (i := 3) (v := ?_) (by kernel_rfl) (by kernel_rfl) (by kernel_rfl) rfl (by kernel_rfl) (by kernel_rfl) (by kernel_rfl) (fun _ _ _ h => h) (Or.inl ⟨by rfl, ?_⟩) hHeld ?_
            rotate_left
            · intro u hSu
              (go_simp) <;> (with_reducible rfl)
            change wpUp _ _ _ _ _ _ _ _ (Act.put _ (some 36) _) _
            simp only [Act.put, List.setIfInBounds_toArray, List.set_cons_zero, List.set_cons_succ]
            refine up_take (i := 4) (v := ?_) (by kernel_rfl) (by kernel_rfl) (by kernel_rfl) rfl (by kernel_rfl) (by kernel_rfl) (by kernel_rfl) (fun _ _ _ h => h) (Or.inl ⟨by rfl, ?_⟩) hHeld ?_
            rotate_left
            · intro u hSu
              (go_simp) <;> (with_reducible rfl)
            change wpUp _ _ _ _ _ _ _ _ (Act.put _ (some 37) _) _
            simp only [Act.put, List.setIfInBounds_toArray, List.set_cons_zero, List.set_cons_succ]
            refine up_take (i := 5) (v := kv k) (by kernel_rfl) (by kernel_rfl) (by kernel_rfl) rfl (by kernel_rfl) (by kernel_rfl) (by kernel_rfl) (fun _ _ _ h => h) (yieldsIf_load_mid (by rfl) _ _ rfl _ _ rfl (k.map (Value.int .u8)) _ (fun u hu => (FK.out u hu).range KY.out) Tryz.underlying38 rfl (info_keyl k KY.out)) hHeld ?_
            change wpUp _ _ _ _ _ _ _ _ (Act.put _ (some 38) _) _
            simp only [Act.put, List.setIfInBounds_toArray, List.set_cons_zero, List.set_cons_succ]
            refine up_take (i := 6) (v := ?_) (by kernel_rfl) (by kernel_rfl) (by kernel_rfl) rfl (by kernel_rfl) (by kernel_rfl) (by kernel_rfl) (fun _ _ _ h => h) (Or.inl ⟨by rfl, ?_⟩) hHeld ?_
            rotate_left
            · intro u hSu
              obtain ⟨r1, r2⟩ := FT.out u hSu
              (go_simp) <;> (with_reducible rfl)
            change wpUp _ _ _ _ _ _ _ _ (Act.put _ (some 39) _) _
            simp only [Act.put, List.setIfInBounds_toArray, List.set_cons_zero, List.set_cons_succ]
            refine up_take (i := 7) (v := ?_) (by kernel_rfl) (by kernel_rfl) (by kernel_rfl) rfl (by kernel_rfl) (by kernel_rfl) (by kernel_rfl) (fun _ _ _ h => h) (Or.inl ⟨by rfl, ?_⟩) hHeld ?_
            rotate_left
            · intro u hSu
              (go_simp) <;> (with_reducible rfl)
            change wpUp _ _ _ _ _ _ _ _ (Act.put _ (some 40) _) _
            simp only [Act.put, List.setIfInBounds_toArray, List.set_cons_zero, List.set_cons_succ]
            refine up_take (i := 8) (v := ?_) (by kernel_rfl) (by kernel_rfl) (by kernel_rfl) rfl (by kernel_rfl) (by kernel_rfl) (by kernel_rfl) (fun _ _ _ h => h) (Or.inl ⟨by rfl, ?_⟩) hHeld ?_
            rotate_left
            · intro u hSu
              (go_simp) <;> (with_reducible rfl)
            change wpUp _ _ _ _ _ _ _ _ (Act.put _ (some 41) _) _
            simp only [Act.put, List.setIfInBounds_toArray, List.set_cons_zero, List.set_cons_succ]
            refine up_take (i := 9) (v := ?_) (by kernel_rfl) (by kernel_rfl) (by kernel_rfl) rfl (by kernel_rfl) (by kernel_rfl) (by kernel_rfl) (fun _ _ _ h => h) (Or.inl ⟨by rfl, ?_⟩) hHeld ?_
            rotate_left
            · intro u hSu
              (go_simp) <;> (with_reducible rfl)
            change wpUp _ _ _ _ _ _ _ _ (Act.put _ (some 42) _) _
            simp only [Act.put, List.setIfInBounds_toArray, List.set_cons_zero, List.set_cons_succ]
            refine up_take (i := 10) (v := ?_) (by kernel_rfl) (by kernel_rfl) (by kernel_rfl) rfl (by kernel_rfl) (by kernel_rfl) (by kernel_rfl) (fun _ _ _ h => h) (Or.inl ⟨by rfl, ?_⟩) hHeld ?_
            rotate_left
            · intro u hSu
              (go_simp) <;> (with_reducible rfl)
            change wpUp _ _ _ _ _ _ _ _ (Act.put _ (some 43) _) _
            simp only [Act.put, List.setIfInBounds_toArray, List.set_cons_zero, List.set_cons_succ]
            refine up_take (i := 11) (v := ?_) (by kernel_rfl) (by kernel_rfl) (by kernel_rfl) rfl (by kernel_rfl) (by kernel_rfl) (by kernel_rfl) (fun _ _ _ h => h) (Or.inl ⟨by rfl, ?_⟩) hHeld ?_
            rotate_left
            · intro u hSu
              obtain ⟨r1, r2⟩ := FC.out u hSu
              (go_simp) <;> (with_reducible rfl)
            change wpUp _ _ _ _ _ _ _ _ (Act.put _ (some 44) _) _
            simp only [Act.put, List.setIfInBounds_toArray, List.set_cons_zero, List.set_cons_succ]
            refine up_take (i := 12) (v := ?_) (by kernel_rfl) (by kernel_rfl) (by kernel_rfl) rfl (by kernel_rfl) (by kernel_rfl) (by kernel_rfl) (fun _ _ _ h => h) (Or.inl ⟨by rfl, ?_⟩) hHeld ?_
            rotate_left
            · intro u hSu
              (go_simp) <;> (with_reducible rfl)
            change wpUp _ _ _ _ _ _ _ _ (Act.put _ (some 45) _) _
            simp only [Act.put, List.setIfInBounds_toArray, List.set_cons_zero, List.set_cons_succ]
            refine up_take (i := 13) (v := ?_) (by kernel_rfl) (by kernel_rfl) (by kernel_rfl) rfl (by kernel_rfl) (by kernel_rfl) (by kernel_rfl) (fun _ _ _ h => h) (Or.inl ⟨by rfl, ?_⟩) hHeld ?_
            rotate_left
            · intro u hSu
              (go_simp) <;> (with_reducible rfl)
            change wpUp _ _ _ _ _ _ _ _ (Act.put _ (some 46) _) _
            simp only [Act.put, List.setIfInBounds_toArray, List.set_cons_zero, List.set_cons_succ]
            refine up_take (i := 14) (v := ?_) (by kernel_rfl) (by kernel_rfl) (by kernel_rfl) rfl (by kernel_rfl) (by kernel_rfl) (by kernel_rfl) (fun _ _ _ h => h) (Or.inl ⟨by rfl, ?_⟩) hHeld ?_
            rotate_left
            · intro u hSu
              (go_simp) <;> (with_reducible rfl)
            change wpUp _ _ _ _ _ _ _ _ (Act.put _ (some 47) _) _
            simp only [Act.put, List.setIfInBounds_toArray, List.set_cons_zero, List.set_cons_succ]
            refine up_take (i := 15) (v := ?_) (by kernel_rfl) (by kernel_rfl) (by kernel_rfl) rfl (by kernel_rfl) (by kernel_rfl) (by kernel_rfl) (fun _ _ _ h => h) (Or.inl ⟨by rfl, ?_⟩) hHeld ?_
            rotate_left
            · intro u hSu
              (go_simp) <;> (with_reducible rfl)
            change wpUp _ _ _ _ _ _ _ _ (Act.put _ (some 48) _) _
            simp only [Act.put, List.setIfInBounds_toArray, List.set_cons_zero, List.set_cons_succ]
            refine up_take (i := 16) (v := ?_) (by kernel_rfl) (by kernel_rfl) (by kernel_rfl) rfl (by kernel_rfl) (by kernel_rfl) (by kernel_rfl) (fun _ _ _ h => h) (Or.inl ⟨by rfl, ?_⟩) hHeld ?_
            rotate_left
            · intro u hSu
              obtain ⟨r1, r2⟩ := FC.out u hSu
              (go_simp) <;> (with_reducible rfl)
            change wpUp _ _ _ _ _ _ _ _ (Act.put _ (some 49) _) _
            simp only [Act.put, List.setIfInBounds_toArray, List.set_cons_zero, List.set_cons_succ]
            refine up_take (i := 17) (v := vv ⟨k, t, n, v, g⟩) (by kernel_rfl) (by kernel_rfl) (by kernel_rfl) rfl (by kernel_rfl) (by kernel_rfl) (by kernel_rfl) (fun _ _ _ h => h) (yieldsIf_build_v4 (by rfl) (.tmp 38) (.tmp 39) (.tmp 44) (.tmp 49) rfl ⟨k, t, n, v, g⟩ KY.out rfl rfl rfl rfl) hHeld ?_
            change wpUp _ _ _ _ _ _ _ _ (Act.put _ (some 50) _) _
            simp only [Act.put, List.setIfInBounds_toArray, List.set_cons_zero, List.set_cons_succ]
            refine up_ready (rs := [18]) (by kernel_rfl) (by simp) ?_
            refine AllUp.that rfl (fun K hK => ?_) AllUp.nil
            go_simp
            go_at_call 115
            refine (CP.out _ hHeld).mono ?_
            rintro e v5 ⟨rfl, h5⟩
            have HX : Hid (Two v2 v5 v3.heap.size M2) := h5; clear h5
            refine hK.out _ _ ?_
            clear hK K hHeld
            refine up_after (i := 19) (v := ?_) (by kernel_rfl) (by kernel_rfl) rfl (Or.inl ⟨by rfl, ?_⟩) ?_
            rotate_left
            · intro u hSu
              (go_simp) <;> (with_reducible rfl)
            change wpUp _ _ _ _ _ _ _ _ (Act.put _ (some 10) _) _
            simp only [Act.put, List.setIfInBounds_toArray, List.set_cons_zero, List.set_cons_succ]
            refine up_done (by kernel_rfl) ?_
            refine NoPanic.normal ?_
            go_wp2
            go_ret
            rw [HR.out]
            exact ⟨rfl, HOLD.out _ (HBV.out _ HX.out.below)⟩
          · have b5 : (c == 5) = false := by simpa using hc5
            cases f with
            | true =>
              have HRN : Hid (runW t n l L false = runW t n (l.drop (i + 1)) M2 true) := by show _ = _; rw [HRS.out, if_neg hc5]; rfl
              clear HRS
              go_wp2
              refine wp_region_noPanic ?_
              refine region_up 18 (fun u => Below wr.heap.size wr u) (by kernel_rfl) ?_ (fun hHeld => ?_)
              · exact (Below.refl _ _).drew
              refine up_take (i := 0) (v := ?_) (by kernel_rfl) (by kernel_rfl) (by kernel_rfl) rfl (by kernel_rfl) (by kernel_rfl) (by kernel_rfl) (fun _ _ _ h => h) (Or.inl ⟨by rfl, ?_⟩) hHeld ?_
              rotate_left
              · intro u hSu
                (go_simp) <;> (with_reducible rfl)
              change wpUp _ _ _ _ _ _ _ _ (Act.put _ (some 33) _) _
              simp only [Act.put, List.setIfInBounds_toArray, List.set_cons_zero, List.set_cons_succ]
              refine up_take (i := 1) (v := ?_) (by kernel_rfl) (by kernel_rfl) (by kernel_rfl) rfl (by kernel_rfl) (by kernel_rfl) (by kernel_rfl) (fun _ _ _ h => h) (Or.inl ⟨by rfl, ?_⟩) hHeld ?_
              rotate_left
              · intro u hSu
                (go_simp) <;> (with_reducible rfl)
              change wpUp _ _ _ _ _ _ _ _ (Act.put _ (some 34) _) _
              simp only [Act.put, List.setIfInBounds_toArray, List.set_cons_zero, List.set_cons_succ]
              refine up_take (i := 2) (v := ?_) (by kernel_rfl) (by kernel_rfl) (by kernel_rfl) rfl (by kernel_rfl) (by kernel_rfl) (by kernel_rfl) (fun _ _ _ h => h) (Or.inl ⟨by rfl, ?_⟩) hHeld ?_
              rotate_left
              · intro u hSu
                (go_simp) <;> (with_reducible rfl)
              change wpUp _ _ _ _ _ _ _ _ (Act.put _ (some 35) _) _
              simp only [Act.put, List.setIfInBounds_toArray, List.set_cons_zero, List.set_cons_succ]
              refine up_take (i := 3) (v := ?_) (by kernel_rfl) (by kernel_rfl) (by kernel_rfl) rfl (by kernel_rfl) (by kernel_rfl) (by kernel_rfl) (fun _ _ _ h => h) (Or.inl ⟨by rfl, ?_⟩) hHeld ?_
              rotate_left
              · intro u hSu
                (go_simp) <;> (with_reducible rfl)
              change wpUp _ _ _ _ _ _ _ _ (Act.put _ (some 36) _) _
              simp only [Act.put, List.setIfInBounds_toArray, List.set_cons_zero, List.set_cons_succ]
              refine up_take (i := 4) (v := ?_) (by kernel_rfl) (by kernel_rfl) (by kernel_rfl) rfl (by kernel_rfl) (by kernel_rfl) (by kernel_rfl) (fun _ _ _ h => h) (Or.inl ⟨by rfl, ?_⟩) hHeld ?_
              rotate_left
              · intro u hSu
                (go_simp) <;> (with_reducible rfl)
              change wpUp _ _ _ _ _ _ _ _ (Act.put _ (some 37) _) _
              simp only [Act.put, List.setIfInBounds_toArray, List.set_cons_zero, List.set_cons_succ]
              refine up_take (i := 5) (v := kv k) (by kernel_rfl) (by kernel_rfl) (by kernel_rfl) rfl (by kernel_rfl) (by kernel_rfl) (by kernel_rfl) (fun _ _ _ h => h) (yieldsIf_load_mid (by rfl) _ _ rfl _ _ rfl (k.map (Value.int .u8)) _ (fun u hu => (FK.out u hu).range KY.out) Tryz.underlying38 rfl (info_keyl k KY.out)) hHeld ?_
              change wpUp _ _ _ _ _ _ _ _ (Act.put _ (some 38) _) _
              simp only [Act.put, List.setIfInBounds_toArray, List.set_cons_zero, List.set_cons_succ]
              refine up_take (i := 6) (v := ?_) (by kernel_rfl) (by kernel_rfl) (by kernel_rfl) rfl (by kernel_rfl) (by kernel_rfl) (by kernel_rfl) (fun _ _ _ h => h) (Or.inl ⟨by rfl, ?_⟩) hHeld ?_
              rotate_left
              · intro u hSu
                obtain ⟨r1, r2⟩ := FT.out u hSu
                (go_simp) <;> (with_reducible rfl)
              change wpUp _ _ _ _ _ _ _ _ (Act.put _ (some 39) _) _
              simp only [Act.put, List.setIfInBounds_toArray, List.set_cons_zero, List.set_cons_succ]
              refine up_take (i := 7) (v := ?_) (by kernel_rfl) (by kernel_rfl) (by kernel_rfl) rfl (by kernel_rfl) (by kernel_rfl) (by kernel_rfl) (fun _ _ _ h => h) (Or.inl ⟨by rfl, ?_⟩) hHeld ?_
              rotate_left
              · intro u hSu
                (go_simp) <;> (with_reducible rfl)
              change wpUp _ _ _ _ _ _ _ _ (Act.put _ (some 40) _) _
              simp only [Act.put, List.setIfInBounds_toArray, List.set_cons_zero, List.set_cons_succ]
              refine up_take (i := 8) (v := ?_) (by kernel_rfl) (by kernel_rfl) (by kernel_rfl) rfl (by kernel_rfl) (by kernel_rfl) (by kernel_rfl) (fun _ _ _ h => h) (Or.inl ⟨by rfl, ?_⟩) hHeld ?_
              rotate_left
              · intro u hSu
                (go_simp) <;> (with_reducible rfl)
              change wpUp _ _ _ _ _ _ _ _ (Act.put _ (some 41) _) _
              simp only [Act.put, List.setIfInBounds_toArray, List.set_cons_zero, List.set_cons_succ]
              refine up_take (i := 9) (v := ?_) (by kernel_rfl) (by kernel_rfl) (by kernel_rfl) rfl (by kernel_rfl) (by kernel_rfl) (by kernel_rfl) (fun _ _ _ h => h) (Or.inl ⟨by rfl, ?_⟩) hHeld ?_
              rotate_left
              · intro u hSu
                (go_simp) <;> (with_reducible rfl)
              change wpUp _ _ _ _ _ _ _ _ (Act.put _ (some 42) _) _
              simp only [Act.put, List.setIfInBounds_toArray, List.set_cons_zero, List.set_cons_succ]
              refine up_take (i := 10) (v := ?_) (by kernel_rfl) (by kernel_rfl) (by kernel_rfl) rfl (by kernel_rfl) (by kernel_rfl) (by kernel_rfl) (fun _ _ _ h => h) (Or.inl ⟨by rfl, ?_⟩) hHeld ?_
              rotate_left
              · intro u hSu
                (go_simp) <;> (with_reducible rfl)
              change wpUp _ _ _ _ _ _ _ _ (Act.put _ (some 43) _) _
              simp only [Act.put, List.setIfInBounds_toArray, List.set_cons_zero, List.set_cons_succ]
              refine up_take (i := 11) (v := ?_) (by kernel_rfl) (by kernel_rfl) (by kernel_rfl) rfl (by kernel_rfl) (by kernel_rfl) (by kernel_rfl) (fun _ _ _ h => h) (Or.inl ⟨by rfl, ?_⟩) hHeld ?_
              rotate_left
              · intro u hSu
                obtain ⟨r1, r2⟩ := FC.out u hSu
                (go_simp) <;> (with_reducible rfl)
              change wpUp _ _ _ _ _ _ _ _ (Act.put _ (some 44) _) _
              simp only [Act.put, List.setIfInBounds_toArray, List.set_cons_zero, List.set_cons_succ]
              refine up_take (i := 12) (v := ?_) (by kernel_rfl) (by kernel_rfl) (by kernel_rfl) rfl (by kernel_rfl) (by kernel_rfl) (by kernel_rfl) (fun _ _ _ h => h) (Or.inl ⟨by rfl, ?_⟩) hHeld ?_
              rotate_left
              · intro u hSu
                (go_simp) <;> (with_reducible rfl)
              change wpUp _ _ _ _ _ _ _ _ (Act.put _ (some 45) _) _
              simp only [Act.put, List.setIfInBounds_toArray, List.set_cons_zero, List.set_cons_succ]
              refine up_take (i := 13) (v := ?_) (by kernel_rfl) (by kernel_rfl) (by kernel_rfl) rfl (by kernel_rfl) (by kernel_rfl) (by kernel_rfl) (fun _ _ _ h => h) (Or.inl ⟨by rfl, ?_⟩) hHeld ?_
              rotate_left
              · intro u hSu
                (go_simp) <;> (with_reducible rfl)
              change wpUp _ _ _ _ _ _ _ _ (Act.put _ (some 46) _) _
              simp only [Act.put, List.setIfInBounds_toArray, List.set_cons_zero, List.set_cons_succ]
              refine up_take (i := 14) (v := ?_) (by kernel_rfl) (by kernel_rfl) (by kernel_rfl) rfl (by kernel_rfl) (by kernel_rfl) (by kernel_rfl) (fun _ _ _ h => h) (Or.inl ⟨by rfl, ?_⟩) hHeld ?_
              rotate_left
              · intro u hSu
                (go_simp) <;> (with_reducible rfl)
              change wpUp _ _ _ _ _ _ _ _ (Act.put _ (some 47) _) _
              simp only [Act.put, List.setIfInBounds_toArray, List.set_cons_zero, List.set_cons_succ]
              refine up_take (i := 15) (v := ?_) (by kernel_rfl) (by kernel_rfl) (by kernel_rfl) rfl (by kernel_rfl) (by kernel_rfl) (by kernel_rfl) (fun _ _ _ h => h) (Or.inl ⟨by rfl, ?_⟩) hHeld ?_
              rotate_left
              · intro u hSu
                (go_simp) <;> (with_reducible rfl)
              change wpUp _ _ _ _ _ _ _ _ (Act.put _ (some 48) _) _
              simp only [Act.put, List.setIfInBounds_toArray, List.set_cons_zero, List.set_cons_succ]
              refine up_take (i := 16) (v := ?_) (by kernel_rfl) (by kernel_rfl) (by kernel_rfl) rfl (by kernel_rfl) (by kernel_rfl) (by kernel_rfl) (fun _ _ _ h => h) (Or.inl ⟨by rfl, ?_⟩) hHeld ?_
              rotate_left
              · intro u hSu
                obtain ⟨r1, r2⟩ := FC.out u hSu
                (go_simp) <;> (with_reducible rfl)
              change wpUp _ _ _ _ _ _ _ _ (Act.put _ (some 49) _) _
              simp only [Act.put, List.setIfInBounds_toArray, List.set_cons_zero, List.set_cons_succ]
              refine up_take (i := 17) (v := vv ⟨k, t, n, v, g⟩) (by kernel_rfl) (by kernel_rfl) (by kernel_rfl) rfl (by kernel_rfl) (by kernel_rfl) (by kernel_rfl) (fun _ _ _ h => h) (yieldsIf_build_v4 (by rfl) (.tmp 38) (.tmp 39) (.tmp 44) (.tmp 49) rfl ⟨k, t, n, v, g⟩ KY.out rfl rfl rfl rfl) hHeld ?_
              change wpUp _ _ _ _ _ _ _ _ (Act.put _ (some 50) _) _
              simp only [Act.put, List.setIfInBounds_toArray, List.set_cons_zero, List.set_cons_succ]
              refine up_ready (rs := [18]) (by kernel_rfl) (by simp) ?_
              refine AllUp.that rfl (fun K hK => ?_) AllUp.nil
              go_simp
              go_at_call 115
              refine (CP.out _ hHeld).mono ?_
              rintro e v5 ⟨rfl, h5⟩
              have HX : Hid (Two v2 v5 v3.heap.size M2) := h5; clear h5
              refine hK.out _ _ ?_
              clear hK K hHeld
              refine up_after (i := 19) (v := ?_) (by kernel_rfl) (by kernel_rfl) rfl (Or.inl ⟨by rfl, ?_⟩) ?_
              rotate_left
              · intro u hSu
                (go_simp) <;> (with_reducible rfl)
              change wpUp _ _ _ _ _ _ _ _ (Act.put _ (some 10) _) _
              simp only [Act.put, List.setIfInBounds_toArray, List.set_cons_zero, List.set_cons_succ]
              refine up_done (by kernel_rfl) ?_
              refine NoPanic.normal ?_
              go_wp2
              go_roundw
              case rel => exact ⟨i + 1, true, M2, by go_num, rfl, by omega, HX, HRN, HML2⟩
              case measure => simp [intOf]; omega
            | false =>
              by_cases hc0 : c = 0
              · subst hc0
                have HRN : Hid (runW t n l L false = runW t n (l.drop (i + 1)) M2 false) := by show _ = _; rw [HRS.out, if_neg hc5]; rfl
                clear HRS hc5 b5
                go_wp2
                refine wp_region_noPanic ?_
                refine region_up 18 (fun u => Below wr.heap.size wr u) (by kernel_rfl) ?_ (fun hHeld => ?_)
                · exact (Below.refl _ _).drew
                refine up_take (i := 0) (v := ?_) (by kernel_rfl) (by kernel_rfl) (by kernel_rfl) rfl (by kernel_rfl) (by kernel_rfl) (by kernel_rfl) (fun _ _ _ h => h) (Or.inl ⟨by rfl, ?_⟩) hHeld ?_
                rotate_left
                · intro u hSu
                  (go_simp) <;> (with_reducible rfl)
                change wpUp _ _ _ _ _ _ _ _ (Act.put _ (some 33) _) _
                simp only [Act.put, List.setIfInBounds_toArray, List.set_cons_zero, List.set_cons_succ]
                refine up_take (i := 1) (v := ?_) (by kernel_rfl) (by kernel_rfl) (by kernel_rfl) rfl (by kernel_rfl) (by kernel_rfl) (by kernel_rfl) (fun _ _ _ h => h) (Or.inl ⟨by rfl, ?_⟩) hHeld ?_
                rotate_left
                · intro u hSu
                  (go_simp) <;> (with_reducible rfl)
                change wpUp _ _ _ _ _ _ _ _ (Act.put _ (some 34) _) _
                simp only [Act.put, List.setIfInBounds_toArray, List.set_cons_zero, List.set_cons_succ]
                refine up_take (i := 2) (v := ?_) (by kernel_rfl) (by kernel_rfl) (by kernel_rfl) rfl (by kernel_rfl) (by kernel_rfl) (by kernel_rfl) (fun _ _ _ h => h) (Or.inl ⟨by rfl, ?_⟩) hHeld ?_
                rotate_left
                · intro u hSu
                  (go_simp) <;> (with_reducible rfl)
                change wpUp _ _ _ _ _ _ _ _ (Act.put _ (some 35) _) _
                simp only [Act.put, List.setIfInBounds_toArray, List.set_cons_zero, List.set_cons_succ]
                refine up_take (i := 3) (v := ?_) (by kernel_rfl) (by kernel_rfl) (by kernel_rfl) rfl (by kernel_rfl) (by kernel_rfl) (by kernel_rfl) (fun _ _ _ h => h) (Or.inl ⟨by rfl, ?_⟩) hHeld ?_
                rotate_left
                · intro u hSu
                  (go_simp) <;> (with_reducible rfl)
                change wpUp _ _ _ _ _ _ _ _ (Act.put _ (some 36) _) _
                simp only [Act.put, List.setIfInBounds_toArray, List.set_cons_zero, List.set_cons_succ]
                refine up_take (i := 4) (v := ?_) (by kernel_rfl) (by kernel_rfl) (by kernel_rfl) rfl (by kernel_rfl) (by kernel_rfl) (by kernel_rfl) (fun _ _ _ h => h) (Or.inl ⟨by rfl, ?_⟩) hHeld ?_
                rotate_left
                · intro u hSu
                  (go_simp) <;> (with_reducible rfl)
                change wpUp _ _ _ _ _ _ _ _ (Act.put _ (some 37) _) _
                simp only [Act.put, List.setIfInBounds_toArray, List.set_cons_zero, List.set_cons_succ]
                refine up_take (i := 5) (v := kv k) (by kernel_rfl) (by kernel_rfl) (by kernel_rfl) rfl (by kernel_rfl) (by kernel_rfl) (by kernel_rfl) (fun _ _ _ h => h) (yieldsIf_load_mid (by rfl) _ _ rfl _ _ rfl (k.map (Value.int .u8)) _ (fun u hu => (FK.out u hu).range KY.out) Tryz.underlying38 rfl (info_keyl k KY.out)) hHeld ?_
                change wpUp _ _ _ _ _ _ _ _ (Act.put _ (some 38) _) _
                simp only [Act.put, List.setIfInBounds_toArray, List.set_cons_zero, List.set_cons_succ]
                refine up_take (i := 6) (v := ?_) (by kernel_rfl) (by kernel_rfl) (by kernel_rfl) rfl (by kernel_rfl) (by kernel_rfl) (by kernel_rfl) (fun _ _ _ h => h) (Or.inl ⟨by rfl, ?_⟩) hHeld ?_
                rotate_left
                · intro u hSu
                  obtain ⟨r1, r2⟩ := FT.out u hSu
                  (go_simp) <;> (with_reducible rfl)
                change wpUp _ _ _ _ _ _ _ _ (Act.put _ (some 39) _) _
                simp only [Act.put, List.setIfInBounds_toArray, List.set_cons_zero, List.set_cons_succ]
                refine up_take (i := 7) (v := ?_) (by kernel_rfl) (by kernel_rfl) (by kernel_rfl) rfl (by kernel_rfl) (by kernel_rfl) (by kernel_rfl) (fun _ _ _ h => h) (Or.inl ⟨by rfl, ?_⟩) hHeld ?_
                rotate_left
                · intro u hSu
                  (go_simp) <;> (with_reducible rfl)
                change wpUp _ _ _ _ _ _ _ _ (Act.put _ (some 40) _) _
                simp only [Act.put, List.setIfInBounds_toArray, List.set_cons_zero, List.set_cons_succ]
                refine up_take (i := 8) (v := ?_) (by kernel_rfl) (by kernel_rfl) (by kernel_rfl) rfl (by kernel_rfl) (by kernel_rfl) (by kernel_rfl) (fun _ _ _ h => h) (Or.inl ⟨by rfl, ?_⟩) hHeld ?_
                rotate_left
                · intro u hSu
                  (go_simp) <;> (with_reducible rfl)
                change wpUp _ _ _ _ _ _ _ _ (Act.put _ (some 41) _) _
                simp only [Act.put, List.setIfInBounds_toArray, List.set_cons_zero, List.set_cons_succ]
                refine up_take (i := 9) (v := ?_) (by kernel_rfl) (by kernel_rfl) (by kernel_rfl) rfl (by kernel_rfl) (by kernel_rfl) (by kernel_rfl) (fun _ _ _ h => h) (Or.inl ⟨by rfl, ?_⟩) hHeld ?_
                rotate_left
                · intro u hSu
                  (go_simp) <;> (with_reducible rfl)
                change wpUp _ _ _ _ _ _ _ _ (Act.put _ (some 42) _) _
                simp only [Act.put, List.setIfInBounds_toArray, List.set_cons_zero, List.set_cons_succ]
                refine up_take (i := 10) (v := ?_) (by kernel_rfl) (by kernel_rfl) (by kernel_rfl) rfl (by kernel_rfl) (by kernel_rfl) (by kernel_rfl) (fun _ _ _ h => h) (Or.inl ⟨by rfl, ?_⟩) hHeld ?_
                rotate_left
                · intro u hSu
                  (go_simp) <;> (with_reducible rfl)
                change wpUp _ _ _ _ _ _ _ _ (Act.put _ (some 43) _) _
                simp only [Act.put, List.setIfInBounds_toArray, List.set_cons_zero, List.set_cons_succ]
                refine up_take (i := 11) (v := ?_) (by kernel_rfl) (by kernel_rfl) (by kernel_rfl) rfl (by kernel_rfl) (by kernel_rfl) (by kernel_rfl) (fun _ _ _ h => h) (Or.inl ⟨by rfl, ?_⟩) hHeld ?_
                rotate_left
                · intro u hSu
                  obtain ⟨r1, r2⟩ := FC.out u hSu
                  (go_simp) <;> (with_reducible rfl)
                change wpUp _ _ _ _ _ _ _ _ (Act.put _ (some 44) _) _
                simp only [Act.put, List.setIfInBounds_toArray, List.set_cons_zero, List.set_cons_succ]
                refine up_take (i := 12) (v := ?_) (by kernel_rfl) (by kernel_rfl) (by kernel_rfl) rfl (by kernel_rfl) (by kernel_rfl) (by kernel_rfl) (fun _ _ _ h => h) (Or.inl ⟨by rfl, ?_⟩) hHeld ?_
                rotate_left
                · intro u hSu
                  (go_simp) <;> (with_reducible rfl)
                change wpUp _ _ _ _ _ _ _ _ (Act.put _ (some 45) _) _
                simp only [Act.put, List.setIfInBounds_toArray, List.set_cons_zero, List.set_cons_succ]
                refine up_take (i := 13) (v := ?_) (by kernel_rfl) (by kernel_rfl) (by kernel_rfl) rfl (by kernel_rfl) (by kernel_rfl) (by kernel_rfl) (fun _ _ _ h => h) (Or.inl ⟨by rfl, ?_⟩) hHeld ?_
                rotate_left
                · intro u hSu
                  (go_simp) <;> (with_reducible rfl)
                change wpUp _ _ _ _ _ _ _ _ (Act.put _ (some 46) _) _
                simp only [Act.put, List.setIfInBounds_toArray, List.set_cons_zero, List.set_cons_succ]
                refine up_take (i := 14) (v := ?_) (by kernel_rfl) (by kernel_rfl) (by kernel_rfl) rfl (by kernel_rfl) (by kernel_rfl) (by kernel_rfl) (fun _ _ _ h => h) (Or.inl ⟨by rfl, ?_⟩) hHeld ?_
                rotate_left
                · intro u hSu
                  (go_simp) <;> (with_reducible rfl)
                change wpUp _ _ _ _ _ _ _ _ (Act.put _ (some 47) _) _
                simp only [Act.put, List.setIfInBounds_toArray, List.set_cons_zero, List.set_cons_succ]
                refine up_take (i := 15) (v := ?_) (by kernel_rfl) (by kernel_rfl) (by kernel_rfl) rfl (by kernel_rfl) (by kernel_rfl) (by kernel_rfl) (fun _ _ _ h => h) (Or.inl ⟨by rfl, ?_⟩) hHeld ?_
                rotate_left
                · intro u hSu
                  (go_simp) <;> (with_reducible rfl)
                change wpUp _ _ _ _ _ _ _ _ (Act.put _ (some 48) _) _
                simp only [Act.put, List.setIfInBounds_toArray, List.set_cons_zero, List.set_cons_succ]
                refine up_take (i := 16) (v := ?_) (by kernel_rfl) (by kernel_rfl) (by kernel_rfl) rfl (by kernel_rfl) (by kernel_rfl) (by kernel_rfl) (fun _ _ _ h => h) (Or.inl ⟨by rfl, ?_⟩) hHeld ?_
                rotate_left
                · intro u hSu
                  obtain ⟨r1, r2⟩ := FC.out u hSu
                  (go_simp) <;> (with_reducible rfl)
                change wpUp _ _ _ _ _ _ _ _ (Act.put _ (some 49) _) _
                simp only [Act.put, List.setIfInBounds_toArray, List.set_cons_zero, List.set_cons_succ]
                refine up_take (i := 17) (v := vv ⟨k, t, n, v, g⟩) (by kernel_rfl) (by kernel_rfl) (by kernel_rfl) rfl (by kernel_rfl) (by kernel_rfl) (by kernel_rfl) (fun _ _ _ h => h) (yieldsIf_build_v4 (by rfl) (.tmp 38) (.tmp 39) (.tmp 44) (.tmp 49) rfl ⟨k, t, n, v, g⟩ KY.out rfl rfl rfl rfl) hHeld ?_
                change wpUp _ _ _ _ _ _ _ _ (Act.put _ (some 50) _) _
                simp only [Act.put, List.setIfInBounds_toArray, List.set_cons_zero, List.set_cons_succ]
                refine up_ready (rs := [18]) (by kernel_rfl) (by simp) ?_
                refine AllUp.that rfl (fun K hK => ?_) AllUp.nil
                go_simp
                go_at_call 115
                refine (CP.out _ hHeld).mono ?_
                rintro e v5 ⟨rfl, h5⟩
                have HX : Hid (Two v2 v5 v3.heap.size M2) := h5; clear h5
                refine hK.out _ _ ?_
                clear hK K hHeld
                refine up_after (i := 19) (v := ?_) (by kernel_rfl) (by kernel_rfl) rfl (Or.inl ⟨by rfl, ?_⟩) ?_
                rotate_left
                · intro u hSu
                  (go_simp) <;> (with_reducible rfl)
                change wpUp _ _ _ _ _ _ _ _ (Act.put _ (some 10) _) _
                simp only [Act.put, List.setIfInBounds_toArray, List.set_cons_zero, List.set_cons_succ]
                refine up_done (by kernel_rfl) ?_
                refine NoPanic.normal ?_
                go_wp2
                go_roundw
                case rel => exact ⟨i + 1, false, M2, by go_num, rfl, by omega, HX, HRN, HML2⟩
                case measure => simp [intOf]; omega
              · have b0 : (c != 0) = true := by simpa using hc0
                have HRN : Hid (runW t n l L false = runW t n (l.drop (i + 1)) M2 true) := by show _ = _; rw [HRS.out, if_neg hc5, decide_eq_true hc0]; rfl
                clear HRS
                go_wp2
                refine wp_region_noPanic ?_
                refine region_up 18 (fun u => Below wr.heap.size wr u) (by kernel_rfl) ?_ (fun hHeld => ?_)
                · exact (Below.refl _ _).drew
                refine up_take (i := 0) (v := ?_) (by kernel_rfl) (by kernel_rfl) (by kernel_rfl) rfl (by kernel_rfl) (by kernel_rfl) (by kernel_rfl) (fun _ _ _ h => h) (Or.inl ⟨by rfl, ?_⟩) hHeld ?_
                rotate_left
                · intro u hSu
                  (go_simp) <;> (with_reducible rfl)
                change wpUp _ _ _ _ _ _ _ _ (Act.put _ (some 33) _) _
                simp only [Act.put, List.setIfInBounds_toArray, List.set_cons_zero, List.set_cons_succ]
                refine up_take (i := 1) (v := ?_) (by kernel_rfl) (by kernel_rfl) (by kernel_rfl) rfl (by kernel_rfl) (by kernel_rfl) (by kernel_rfl) (fun _ _ _ h => h) (Or.inl ⟨by rfl, ?_⟩) hHeld ?_
                rotate_left
                · intro u hSu
                  (go_simp) <;> (with_reducible rfl)
                change wpUp _ _ _ _ _ _ _ _ (Act.put _ (some 34) _) _
                simp only [Act.put, List.setIfInBounds_toArray, List.set_cons_zero, List.set_cons_succ]
                refine up_take (i := 2) (v := ?_) (by kernel_rfl) (by kernel_rfl) (by kernel_rfl) rfl (by kernel_rfl) (by kernel_rfl) (by kernel_rfl) (fun _ _ _ h => h) (Or.inl ⟨by rfl, ?_⟩) hHeld ?_
                rotate_left
                · intro u hSu
                  (go_simp) <;> (with_reducible rfl)
                change wpUp _ _ _ _ _ _ _ _ (Act.put _ (some 35) _) _
                simp only [Act.put, List.setIfInBounds_toArray, List.set_cons_zero, List.set_cons_succ]
                refine up_take (i := 3) (v := ?_) (by kernel_rfl) (by kernel_rfl) (by kernel_rfl) rfl (by kernel_rfl) (by kernel_rfl) (by kernel_rfl) (fun _ _ _ h => h) (Or.inl ⟨by rfl, ?_⟩) hHeld ?_
                rotate_left
                · intro u hSu
                  (go_simp) <;> (with_reducible rfl)
                change wpUp _ _ _ _ _ _ _ _ (Act.put _ (some 36) _) _
                simp only [Act.put, List.setIfInBounds_toArray, List.set_cons_zero, List.set_cons_succ]
                refine up_take (i := 4) (v := ?_) (by kernel_rfl) (by kernel_rfl) (by kernel_rfl) rfl (by kernel_rfl) (by kernel_rfl) (by kernel_rfl) (fun _ _ _ h => h) (Or.inl ⟨by rfl, ?_⟩) hHeld ?_
                rotate_left
                · intro u hSu
                  (go_simp) <;> (with_reducible rfl)
                change wpUp _ _ _ _ _ _ _ _ (Act.put _ (some 37) _) _
                simp only [Act.put, List.setIfInBounds_toArray, List.set_cons_zero, List.set_cons_succ]
                refine up_take (i := 5) (v := kv k) (by kernel_rfl) (by kernel_rfl) (by kernel_rfl) rfl (by kernel_rfl) (by kernel_rfl) (by kernel_rfl) (fun _ _ _ h => h) (yieldsIf_load_mid (by rfl) _ _ rfl _ _ rfl (k.map (Value.int .u8)) _ (fun u hu => (FK.out u hu).range KY.out) Tryz.underlying38 rfl (info_keyl k KY.out)) hHeld ?_
                change wpUp _ _ _ _ _ _ _ _ (Act.put _ (some 38) _) _
                simp only [Act.put, List.setIfInBounds_toArray, List.set_cons_zero, List.set_cons_succ]
                refine up_take (i := 6) (v := ?_) (by kernel_rfl) (by kernel_rfl) (by kernel_rfl) rfl (by kernel_rfl) (by kernel_rfl) (by kernel_rfl) (fun _ _ _ h => h) (Or.inl ⟨by rfl, ?_⟩) hHeld ?_
                rotate_left
                · intro u hSu
                  obtain ⟨r1, r2⟩ := FT.out u hSu
                  (go_simp) <;> (with_reducible rfl)
                change wpUp _ _ _ _ _ _ _ _ (Act.put _ (some 39) _) _
                simp only [Act.put, List.setIfInBounds_toArray, List.set_cons_zero, List.set_cons_succ]
                refine up_take (i := 7) (v := ?_) (by kernel_rfl) (by kernel_rfl) (by kernel_rfl) rfl (by kernel_rfl) (by kernel_rfl) (by kernel_rfl) (fun _ _ _ h => h) (Or.inl ⟨by rfl, ?_⟩) hHeld ?_
                rotate_left
                · intro u hSu
                  (go_simp) <;> (with_reducible rfl)
                change wpUp _ _ _ _ _ _ _ _ (Act.put _ (some 40) _) _
                simp only [Act.put, List.setIfInBounds_toArray, List.set_cons_zero, List.set_cons_succ]
                refine up_take (i := 8) (v := ?_) (by kernel_rfl) (by kernel_rfl) (by kernel_rfl) rfl (by kernel_rfl) (by kernel_rfl) (by kernel_rfl) (fun _ _ _ h => h) (Or.inl ⟨by rfl, ?_⟩) hHeld ?_
                rotate_left
                · intro u hSu
                  (go_simp) <;> (with_reducible rfl)
                change wpUp _ _ _ _ _ _ _ _ (Act.put _ (some 41) _) _
                simp only [Act.put, List.setIfInBounds_toArray, List.set_cons_zero, List.set_cons_succ]
                refine up_take (i := 9) (v := ?_) (by kernel_rfl) (by kernel_rfl) (by kernel_rfl) rfl (by kernel_rfl) (by kernel_rfl) (by kernel_rfl) (fun _ _ _ h => h) (Or.inl ⟨by rfl, ?_⟩) hHeld ?_
                rotate_left
                · intro u hSu
                  (go_simp) <;> (with_reducible rfl)
                change wpUp _ _ _ _ _ _ _ _ (Act.put _ (some 42) _) _
                simp only [Act.put, List.setIfInBounds_toArray, List.set_cons_zero, List.set_cons_succ]
                refine up_take (i := 10) (v := ?_) (by kernel_rfl) (by kernel_rfl) (by kernel_rfl) rfl (by kernel_rfl) (by kernel_rfl) (by kernel_rfl) (fun _ _ _ h => h) (Or.inl ⟨by rfl, ?_⟩) hHeld ?_
                rotate_left
                · intro u hSu
                  (go_simp) <;> (with_reducible rfl)
                change wpUp _ _ _ _ _ _ _ _ (Act.put _ (some 43) _) _
                simp only [Act.put, List.setIfInBounds_toArray, List.set_cons_zero, List.set_cons_succ]
                refine up_take (i := 11) (v := ?_) (by kernel_rfl) (by kernel_rfl) (by kernel_rfl) rfl (by kernel_rfl) (by kernel_rfl) (by kernel_rfl) (fun _ _ _ h => h) (Or.inl ⟨by rfl, ?_⟩) hHeld ?_
                rotate_left
                · intro u hSu
                  obtain ⟨r1, r2⟩ := FC.out u hSu
                  (go_simp) <;> (with_reducible rfl)
                change wpUp _ _ _ _ _ _ _ _ (Act.put _ (some 44) _) _
                simp only [Act.put, List.setIfInBounds_toArray, List.set_cons_zero, List.set_cons_succ]
                refine up_take (i := 12) (v := ?_) (by kernel_rfl) (by kernel_rfl) (by kernel_rfl) rfl (by kernel_rfl) (by kernel_rfl) (by kernel_rfl) (fun _ _ _ h => h) (Or.inl ⟨by rfl, ?_⟩) hHeld ?_
                rotate_left
                · intro u hSu
                  (go_simp) <;> (with_reducible rfl)
                change wpUp _ _ _ _ _ _ _ _ (Act.put _ (some 45) _) _
                simp only [Act.put, List.setIfInBounds_toArray, List.set_cons_zero, List.set_cons_succ]
                refine up_take (i := 13) (v := ?_) (by kernel_rfl) (by kernel_rfl) (by kernel_rfl) rfl (by kernel_rfl) (by kernel_rfl) (by kernel_rfl) (fun _ _ _ h => h) (Or.inl ⟨by rfl, ?_⟩) hHeld ?_
                rotate_left
                · intro u hSu
                  (go_simp) <;> (with_reducible rfl)
                change wpUp _ _ _ _ _ _ _ _ (Act.put _ (some 46) _) _
                simp only [Act.put, List.setIfInBounds_toArray, List.set_cons_zero, List.set_cons_succ]
                refine up_take (i := 14) (v := ?_) (by kernel_rfl) (by kernel_rfl) (by kernel_rfl) rfl (by kernel_rfl) (by kernel_rfl) (by kernel_rfl) (fun _ _ _ h => h) (Or.inl ⟨by rfl, ?_⟩) hHeld ?_
                rotate_left
                · intro u hSu
                  (go_simp) <;> (with_reducible rfl)
                change wpUp _ _ _ _ _ _ _ _ (Act.put _ (some 47) _) _
                simp only [Act.put, List.setIfInBounds_toArray, List.set_cons_zero, List.set_cons_succ]
                refine up_take (i := 15) (v := ?_) (by kernel_rfl) (by kernel_rfl) (by kernel_rfl) rfl (by kernel_rfl) (by kernel_rfl) (by kernel_rfl) (fun _ _ _ h => h) (Or.inl ⟨by rfl, ?_⟩) hHeld ?_
                rotate_left
                · intro u hSu
                  (go_simp) <;> (with_reducible rfl)
                change wpUp _ _ _ _ _ _ _ _ (Act.put _ (some 48) _) _
                simp only [Act.put, List.setIfInBounds_toArray, List.set_cons_zero, List.set_cons_succ]
                refine up_take (i := 16) (v := ?_) (by kernel_rfl) (by kernel_rfl) (by kernel_rfl) rfl (by kernel_rfl) (by kernel_rfl) (by kernel_rfl) (fun _ _ _ h => h) (Or.inl ⟨by rfl, ?_⟩) hHeld ?_
                rotate_left
                · intro u hSu
                  obtain ⟨r1, r2⟩ := FC.out u hSu
                  (go_simp) <;> (with_reducible rfl)
                change wpUp _ _ _ _ _ _ _ _ (Act.put _ (some 49) _) _
                simp only [Act.put, List.setIfInBounds_toArray, List.set_cons_zero, List.set_cons_succ]
                refine up_take (i := 17) (v := vv ⟨k, t, n, v, g⟩) (by kernel_rfl) (by kernel_rfl) (by kernel_rfl) rfl (by kernel_rfl) (by kernel_rfl) (by kernel_rfl) (fun _ _ _ h => h) (yieldsIf_build_v4 (by rfl) (.tmp 38) (.tmp 39) (.tmp 44) (.tmp 49) rfl ⟨k, t, n, v, g⟩ KY.out rfl rfl rfl rfl) hHeld ?_
                change wpUp _ _ _ _ _ _ _ _ (Act.put _ (some 50) _) _
                simp only [Act.put, List.setIfInBounds_toArray, List.set_cons_zero, List.set_cons_succ]
                refine up_ready (rs := [18]) (by kernel_rfl) (by simp) ?_
                refine AllUp.that rfl (fun K hK => ?_) AllUp.nil
                go_simp
                go_at_call 115
                refine (CP.out _ hHeld).mono ?_
                rintro e v5 ⟨rfl, h5⟩
                have HX : Hid (Two v2 v5 v3.heap.size M2) := h5; clear h5
                refine hK.out _ _ ?_
                clear hK K hHeld
                refine up_after (i := 19) (v := ?_) (by kernel_rfl) (by kernel_rfl) rfl (Or.inl ⟨by rfl, ?_⟩) ?_
                rotate_left
                · intro u hSu
                  (go_simp) <;> (with_reducible rfl)
                change wpUp _ _ _ _ _ _ _ _ (Act.put _ (some 10) _) _
                simp only [Act.put, List.setIfInBounds_toArray, List.set_cons_zero, List.set_cons_succ]
                refine up_done (by kernel_rfl) ?_
                refine NoPanic.normal ?_
                go_wp2
                go_roundw
                case rel => exact ⟨i + 1, true, M2, by go_num, rfl, by omega, HX, HRN, HML2⟩
                case measure => simp [intOf]; omega
        · obtain rfl : i = N := by omega
          have HRE : Hid (runW t n l L false = (0, M, f)) := by show _ = _; rw [HRUN.out, List.drop_of_length_le (by rw [HL.out]; exact Nat.le_refl _)]; rfl
          have HRR := HEND.out M f HRE.out
          clear HEND H5 HRUN HRE
          cases f with
          | true =>
            have HR : Hid (R = (6, L)) := by rw [Bool.true_or, if_pos rfl] at HRR; exact HRR
            clear HRR
            go_wp2
            go_ret
            rw [HR.out]
            exact ⟨rfl, HOLD.out _ (HBV.out _ HM.out.below)⟩
          | false =>
            obtain ⟨m, hm⟩ : ∃ m, m = (keysV M).length := ⟨_, rfl⟩
            have CK : Hid (Calls Tryz.prog 61 #[.pointer (some ⟨v3.heap.size, 0, none⟩)] wr fun e w' => (∃ a' c', e = .returned (.slice a' m c') ∧ m ≤ c') ∧ Below wr.heap.size wr w') := by
              rw [hm]
              exact (rkeys10_any _ _ M wr HM.out.st).mono fun e w' ⟨⟨a', c', x1, _, x3⟩, x4⟩ => ⟨⟨a', c', x1, x3⟩, x4⟩
            have hmb : m ≤ 1000000 := by
              rw [hm]
              have h8 := HM.out.st.few
              have h9 : (keysV M).length ≤ M.length := keys_len M
              omega
            rw [← hm, Bool.false_or] at HRR
            clear hm
            by_cases hm2 : 200 < m
            · have d2 : (200 : Int) < (m : Int) := by omega
              have HR : Hid (R = (6, L)) := by rw [decide_eq_true hm2, if_pos rfl] at HRR; exact HRR
              clear HRR
              go_wp2_with (go_at_call 61; refine CK.out.mono ?_; rintro e v6 ⟨⟨a6, c6, rfl, hc6⟩, hb6⟩; have H6 : Hid (Two v2 v6 v3.heap.size M) := HM.out.past hb6; clear hb6)
              go_ret
              rw [HR.out]
              exact ⟨rfl, HOLD.out _ (HBV.out _ H6.out.below)⟩
            · have d2 : ¬ (200 : Int) < (m : Int) := by omega
              have HR : Hid (R = (0, M)) := by rw [decide_eq_false hm2, if_neg (by simp)] at HRR; exact HRR
              clear HRR
              obtain ⟨a7, c7, hq7, _⟩ := HM.out.st.list
              obtain ⟨N7, hN7⟩ : ∃ N7, N7 = M.length := ⟨_, rfl⟩
              rw [← hN7] at hq7
              have HQ7 : Hid (∀ u, Below wr.heap.size wr u → u.cell? ⟨v3.heap.size, 0, none⟩ = some (.slice a7 N7 c7)) := fun u hb => (hb.cell (p := ⟨v3.heap.size, 0, none⟩) HM.out.st.lt).trans hq7
              have HN7 : Hid (M.length = N7) := hN7.symm
              clear hq7 hN7
              go_wp2_with (go_at_call 61; refine CK.out.mono ?_; rintro e v6 ⟨⟨a6, c6, rfl, hc6⟩, hb6⟩; have H6 : Hid (Two v2 v6 v3.heap.size M) := HM.out.past hb6; have z0 := HCE.out v6 (HBV.out _ H6.out.below); have z1 := HQ7.out v6 hb6; have z2 := HFR.out v6 (HBV.out _ H6.out.below); have HZ1 : Hid (v6.cell? ⟨v3.heap.size, 0, none⟩ = some (.slice a7 N7 c7)) := z1; clear hb6)
              go_ret
              rw [HR.out]
              exact ⟨rfl, HST.out.lay BW2.out HB'.out H6.out HN7.out HZ1.out⟩
end Go.Proofs.YtileidbdmpeciaaGreat
