/-
  What package store answers: Copy.
  What the landed parts answer and leave: New, State, Trim, Store, and what ends a transaction (package part).
-/
import Derived.Test.YtileidbdmpeciaaGreatAu101
import Derived.Test.YtileidbdmpeciaaGreatAu109
import Derived.Test.YtileidbdmpeciaaGreatAu98
import Derived.Test.YtileidbdmpeciaaGreatAu84
namespace Go.Proofs.YtileidbdmpeciaaGreat
open Go.RowKit
set_option linter.unusedVariables false

/-- All of a chain, in new memory. -/
theorem call2_any (p : Nat) (L : List Ver) (X : Foot) (w : World) (h : ChD w p L X) :
    Calls Tryz.prog 122 #[.pointer (some ⟨p, 0, none⟩)] w fun e w' => (∃ a c, e = .returned (.slice a L.length c) ∧ w'.ownsRow w.heap.size 136 4 (.slice a L.length c) L.length (L.flatMap encC)) ∧ Below w.heap.size w w' := by
  obtain ⟨a, c, hc1, hc2, hc3, hcell, _⟩ := h.open
  have q0 := (hcell w (Below.refl _ _)).1
  have CL : Hid (Calls Tryz.prog 154 #[.slice a L.length c] w fun e w' => (∃ a' c', e = .returned (.slice a' L.length c') ∧ w'.ownsRow w.heap.size 136 4 (.slice a' L.length c') L.length (L.flatMap encC)) ∧ Below w.heap.size w w') := cclone_any a c L.length L w rfl (Nat.le_trans h.chn.few (by decide)) (hcell w (Below.refl _ _)).2
  generalize hN : L.length = N at *
  generalize hC : L.flatMap encC = C at *
  clear hcell h hN hC
  go_enter Tryz.func122, Tryz.ntmps122
  go_wp2_with (go_at_call 154; refine CL.out.mono ?_; rintro e w1 ⟨⟨a', c', rfl, h1⟩, h2⟩; have H1 : Hid (w1.ownsRow w.heap.size 136 4 (.slice a' N c') N C) := h1; have H2 : Hid (Below w.heap.size w w1) := h2; clear h1 h2)
  go_ret
  exact ⟨⟨a', c', rfl, H1.out⟩, H2.out⟩
/-- A chain's versions put one behind the other, from the first on. -/
theorem put_last {M : List Ver} (h : Chn M) {j : Nat} {V : Ver} (hV : M[j]? = some V) : (putV (M.take j) V).2 = M.take (j + 1) := by
  have hj := (List.getElem?_eq_some_iff.1 hV).1
  have hVM := List.mem_of_getElem? hV
  have hone : One (M.take j) := fun X hX => h.one X (List.mem_of_mem_take hX)
  have hups : Ups (M.take j) := List.Pairwise.sublist (List.take_sublist j M) h.ups
  have hVk := h.one V hVM
  have hlt : ∀ i X, (M.take j)[i]? = some X → ltV X V := fun i X hX => by
    have hi : i < j := by
      have := (List.getElem?_eq_some_iff.1 hX).1
      rw [List.length_take] at this; omega
    rw [List.getElem?_take_of_lt hi] at hX
    exact h.ups.at hi hX hV
  have hlen : (M.take j).length = j := by rw [List.length_take]; omega
  have hrk : rk (M.take j) V = j := by
    have hle := rk_le (M.take j) V
    rw [hlen] at hle
    rcases Nat.lt_or_ge (rk (M.take j) V) j with e | e
    · obtain ⟨X, hX⟩ : ∃ X, (M.take j)[rk (M.take j) V]? = some X := ⟨_, List.getElem?_eq_getElem (by omega)⟩
      exact absurd (hlt _ X hX) (rk_stop _ V X hX)
    · omega
  have hcl : clashV (M.take j) V = false := by
    cases hc : clashV (M.take j) V with
    | false => rfl
    | true =>
      obtain ⟨X, hX, e⟩ := (clash_iff hone hups hVk).1 hc
      obtain ⟨i, hi⟩ := List.getElem?_of_mem hX
      have := hlt i X hi
      have e2 : ltS X.t X.n V.t V.n := this
      rw [e.1, e.2] at e2
      exact absurd e2 (ltS_irr _ _)
  have hfew := h.few
  rw [put_one hone hVk, if_neg (by rw [h.may V hVM]; simp), if_neg (by rw [hcl]; simp), if_neg (by rw [hlen]; omega), hrk, List.take_add_one, hV]
  show (M.take j).take j ++ V :: (M.take j).drop j = _
  rw [List.take_of_length_le (by rw [hlen]; exact Nat.le_refl _), List.drop_eq_nil_of_le (by rw [hlen]; exact Nat.le_refl _)]
  rfl
/-- The copy's chains while the first's are gone over. -/
def cpC (L : List Ver) (left : List Int → Bool) (k : List Int) : List Ver := if left k = true then [] else oneV L k
theorem cp_step (L : List Ver) (left : List Int → Bool) (x : List Int) (k : List Int) : updL (cpC L left) x (oneV L x) k = cpC L (less left x) k := by
  by_cases e : k = x
  · subst e
    rw [updL_same]
    unfold cpC less
    simp
  · rw [updL_other e]
    unfold cpC less
    simp [e]
/-- The copy, one chain of it under way. -/
structure CpM (wc u : World) (q mq : Nat) (L : List Ver) (C : List Int → List Ver) (Z : Foot) : Prop where
  st : ∃ Z' Gq Yq, StI u q C Z' mq Gq Yq ∧ Did wc u Z Z' ∧ ∀ k, Ky k → (Gq k).isSome = true → k ∈ keysV L
theorem CpM.past {wc u u' : World} {q mq : Nat} {L : List Ver} {C : List Int → List Ver} {Z : Foot} (h : CpM wc u q mq L C Z) (hb : Below u.heap.size u u') : CpM wc u' q mq L C Z := by
  obtain ⟨Z', Gq, Yq, h1, h2, h3⟩ := h.st
  exact ⟨Z', Gq, Yq, h1.past hb, h2.trans (Did.stay hb h1.lt), h3⟩
theorem CpM.chg {wc u : World} {q mq : Nat} {L : List Ver} {C : List Int → List Ver} {Z : Foot} (h : CpM wc u q mq L C Z) : Chg wc u Z := by
  obtain ⟨Z', Gq, Yq, h1, h2, h3⟩ := h.st
  exact h2.chg
theorem cpm_put (wc u : World) (q mq : Nat) (L : List Ver) (C : List Int → List Ver) (Z : Foot) (hL : StoG L) (x : List Int) (hx : x ∈ keysV L) (V : Ver) (hV : VerIn V) (h : CpM wc u q mq L C Z) :
    Calls Tryz.prog 99 #[.pointer (some ⟨q, 0, none⟩), kv x, cvv V] u fun e w' => e = .returned (.tuple #[]) ∧ CpM wc w' q mq L (updL C x (putV (C x) V).2) Z := by
  obtain ⟨Z', Gq, Yq, h1, h2, h3⟩ := h.st
  have hkl : KeyL Gq ((keysV L).filter (fun k => (Gq k).isSome)) := ⟨fun k hk => hL.keys k (List.mem_filter.1 hk).1, List.Pairwise.filter _ (keys_nodup hL.sto.ord), fun k hk => by
    rw [List.mem_filter]
    exact ⟨fun e => ⟨h3 k hk e, e⟩, fun e => e.2⟩⟩
  have hlen : ((keysV L).filter (fun k => (Gq k).isSome)).length ≤ 1000000 := by
    have h5 := List.length_filter_le (fun k => (Gq k).isSome) (keysV L)
    have h6 := hL.few
    omega
  refine (sput_any q C Z' mq Gq Yq _ x (hL.keys x hx) V hV u h1 hkl hlen).mono ?_
  rintro e w' ⟨rfl, X', G', Y', j1, j2, j3, j4⟩
  refine ⟨rfl, X', G', Y', j1, h2.trans j2, fun k hk e => ?_⟩
  by_cases hkx : k = x
  · rw [hkx]; exact hx
  · rw [j4 k hkx] at e; exact h3 k hk e
/-- What a copy has reached. -/
structure CpR (w u : World) (q m mq r : Nat) (L : List Ver) (G : List Int → Option Nat) (left : List Int → Bool) (cnt : Nat) : Prop where
  rg : KRange u m r G left cnt
  lo : w.heap.size ≤ r
  below : Below w.heap.size w u
  st : ∃ Z Gq Yq, StI u q (cpC L left) Z mq Gq Yq ∧ (∀ b, Z b → w.heap.size ≤ b) ∧ ¬ Z r ∧ ∀ k, Ky k → (Gq k).isSome = true → k ∈ keysV L
set_option maxHeartbeats 8000000 in
set_option maxRecDepth 4000 in
theorem scopy_any (p : Nat) (L : List Ver) (X : Foot) (w : World) (h : StD w p L X) :
    Calls Tryz.prog 81 #[.pointer (some ⟨p, 0, none⟩)] w fun e w' => ∃ q Z, e = .returned (.pointer (some ⟨q, 0, none⟩)) ∧ StD w' q L Z ∧ Below w.heap.size w w' ∧ ∀ k, Z k → w.heap.size ≤ k := by
  obtain ⟨hg, m, G, Y, hi, hne⟩ := h
  have hkl := sti_keys hg.sto.ord hg.kys hi hne
  have HG : Hid (StoG L) := hg
  have HI : Hid (StI w p (oneV L) X m G Y) := hi
  have HKL : Hid (KeyL G (keysV L)) := hkl
  have CN : Hid (Calls Tryz.prog 40 #[] w fun e w' => ∃ q mq, e = .returned (.pointer (some ⟨q, 0, none⟩)) ∧ (w'.cell? ⟨p, 0, none⟩ = some (.map (some m)) ∧ Hid (KMap w' m G)) ∧ Hid (∀ r u cnt, KRange u m r G (fun k => (G k).isSome) cnt → r = w'.heap.size → Below w'.heap.size w' u → CpR w u q m mq r L G (fun k => (G k).isSome) cnt)) := by
    refine (snew_any w).mono ?_
    rintro e w' ⟨q, Z, rfl, ⟨_, mq, Gq, Yq, hs, hn⟩, hb, hz⟩
    have hi' := hi.past hb
    refine ⟨q, mq, rfl, ⟨hi'.c0, hi'.map⟩, fun r u cnt hr hre hbu => ⟨hr, by rw [hre]; exact hb.size, hb.trans (hbu.mono hb.size), Z, Gq, Yq, (hs.past hbu).congr (fun k hk => ?_), hz, fun x => by have := hs.lt r x; omega, fun k hk e => ?_⟩⟩
    · unfold cpC
      cases hgk : G k with
      | none => simp [hgk, hi.empty k hk hgk]; rfl
      | some g => simp [hgk]; rfl
    · exfalso
      cases hgq : Gq k with
      | none => rw [hgq] at e; cases e
      | some g => exact hn k g hk hgq rfl
  have HEND : Hid (∀ q mq r left cnt u, CpR w u q m mq r L G left cnt → (∀ k, Ky k → left k = false) → ∃ Z, StD u q L Z ∧ Below w.heap.size w u ∧ ∀ k, Z k → w.heap.size ≤ k) := fun q mq r left cnt u hu hl => by
    obtain ⟨Z, Gq, Yq, h1, h2, h3, h4⟩ := hu.st
    refine ⟨Z, ⟨hg, mq, Gq, Yq, h1.congr (fun k hk => by unfold cpC; rw [hl k hk]; rfl), fun k g hk hgk => (one_nil hg.sto.ord).2 (h4 k hk (by rw [hgk]; rfl))⟩, hu.below, h2⟩
  clear hi hne hg hkl
  go_enter Tryz.func81, Tryz.ntmps81
  go_wp2_with (first | (go_at_call 40; refine CN.out.mono ?_; rintro e w1 ⟨q, mq, rfl, ⟨q0, KM⟩, HS1⟩; clear CN) | (at_range; refine wpList_range_kptr rfl _ _ rfl 158 Tryz.underlying137 m G rfl KM.out ?_; intro w0 cnt0 hr0 hb0 hz0; have HT : Hid (CpR w w0 q m mq w1.heap.size L G (fun k => (G k).isSome) cnt0) := HS1.out _ _ _ hr0 rfl hb0; clear hr0 hb0 hz0))
  (try go_frame)
  obtain ⟨r, hr⟩ : ∃ r, r = w1.heap.size := ⟨_, rfl⟩
  rw [← hr] at HT ⊢
  clear hr HS1 KM q0
  go_loopw [5] (fun _ wr => Hid (∃ left cnt, CpR w wr q m mq r L G left cnt)) (fun _ wr => wr.rangeLeft m r)
  case atStart => exact ⟨_, _, HT.out⟩
  case round =>
    obtain ⟨left, cnt, hcr⟩ := hrel.out
    have HCR : Hid (CpR w wr q m mq r L G left cnt) := hcr
    have HRG : Hid (KRange wr m r G left cnt) := hcr.rg
    clear hcr hrel HT
    go_wp2_with (first | (at_next; refine wpList_next_kptr rfl _ rfl m r G left cnt rfl HRG.out ?_ ?_))
    · intro hl0
      have HE : Hid (∃ Z, StD wr q L Z ∧ Below w.heap.size w wr ∧ ∀ k, Z k → w.heap.size ≤ k) := HEND.out q mq r left cnt wr HCR.out hl0
      clear hl0
      go_wp2
      go_ret
      obtain ⟨Z, e1, e2, e3⟩ := HE.out
      exact ⟨q, Z, rfl, e1, e2, e3⟩
    · intro x g w1 cnt1 hx hlx hgx hrg1 hlt hch1 hs1 hen
      have KX : Hid (Ky x) := hx
      have HXK : Hid (x ∈ keysV L) := (HKL.out.iff x hx).1 (by rw [hgx]; rfl)
      have HCNT : Hid (cnt1 < cnt ∧ wr.rangeLeft m r = cnt) := ⟨hlt, HRG.out.left_eq⟩
      obtain ⟨Z, Gq, Yq, z1, z2, z3, z4⟩ := HCR.out.st
      have hlo := HCR.out.lo
      have hbw1 : Below w.heap.size w w1 := HCR.out.below.trans (hch1.below HCR.out.below.size (fun k e => by rw [e]; exact hlo))
      have hst1 : StI w1 q (cpC L left) Z mq Gq Yq := z1.kept hch1.size (fun b hb => hch1.block b (z1.lt b hb) (fun e => z3 (e ▸ hb)))
      have HCX : Hid (cpC L left x = []) := if_pos hlx
      obtain ⟨M, hM⟩ : ∃ M, M = oneV L x := ⟨_, rfl⟩
      obtain ⟨N, hN⟩ : ∃ N, N = M.length := ⟨_, rfl⟩
      have hchn : Chn M := by rw [hM]; exact HG.out.sto.chn x
      have HCHN : Hid (Chn M) := hchn
      have hN50 : N ≤ 50 := by rw [hN]; exact hchn.few
      have HNM : Hid (N = M.length) := hN
      have HALL : Hid (∀ u, Below w1.heap.size w1 u → Calls Tryz.prog 122 #[.pointer (some ⟨g, 0, none⟩)] u fun e w' => ∃ a c, e = .returned (.slice a N c) ∧ N ≤ c ∧ Hid (CpM w' w' q mq L (updL (cpC L left) x (M.take 0)) Z) ∧ Hid (∀ v, Chg w' v Z → ∀ i V, M[i]? = some V → ∃ g3, a = some ⟨g3, 0, none⟩ ∧ CVerAt v g3 (i * 4) V) ∧ Hid (∀ v, Chg w' v Z → ∀ b, b < u.heap.size → w1.heap.size ≤ b → v.heap[b]? = u.heap[b]?) ∧ Hid (∀ v, CpM w' v q mq L (updL (cpC L left) x M) Z → CpR w v q m mq r L G (less left x) cnt1)) := fun u hb => by
        have hbu := hbw1.trans (hb.mono hbw1.size)
        have hch := (HI.out.past hbu).file x g hx hgx
        rw [← hM] at hch
        have hal := call2_any g M (Y x) u hch
        rw [← hN] at hal
        refine hal.mono ?_
        rintro e w' ⟨⟨a, c, rfl, ho⟩, hb'⟩
        have hst' := (hst1.past hb).past hb'
        have hlc : N ≤ c := by
          rcases ho.2 with ⟨e1, e2⟩ | ⟨g3, cap, cur, e1, _, _, e5, _⟩
          · omega
          · cases e1; exact e5
        refine ⟨a, c, rfl, hlc, ⟨Z, Gq, Yq, hst'.congr (fun k hk => ?_), Did.stay (Below.refl _ _) hst'.lt, z4⟩, fun v hv i V hV => ?_, fun v hv b hb1 hb2 => ?_, fun v hv => ?_⟩
        · by_cases e : k = x
          · subst e; rw [updL_same, HCX.out, List.take_zero]
          · rw [updL_other e]
        · rcases ho.2 with ⟨e1, e2⟩ | ⟨g3, cap, cur, e1, hlo3, hh, e5, _⟩
          · have hMn : M = [] := List.eq_nil_of_length_eq_zero (hN.symm.trans e2)
            rw [hMn] at hV; simp at hV
          · cases e1
            have ho2 : CRow w' (.slice (some ⟨g3, 0, none⟩) M.length c) M := by
              have h2 := World.ownsRow.mono ho (Nat.zero_le _)
              rw [hN] at h2
              exact h2
            obtain ⟨g', e, hg', hat⟩ := ho2.ver hV
            injection e with e
            injection e with e
            subst e
            have hk := hv.block g3 hg' (fun z => by have := (hst1.past hb).lt g3 z; omega)
            exact ⟨g3, rfl, ⟨(cell_kept hk _).trans hat.c0, (cell_kept hk _).trans hat.c1, (cell_kept hk _).trans hat.c2, (cell_kept hk _).trans hat.c3⟩⟩
        · exact (hv.block b (Nat.lt_of_lt_of_le hb1 hb'.size) (fun z => by have := hst1.lt b z; omega)).trans (hb'.block b hb1)
        · obtain ⟨Z', Gq', Yq', v1, v2, v3⟩ := hv.st
          have hbw' : Below w.heap.size w w' := hbu.trans (hb'.mono hbu.size)
          have hml := HI.out.lt m HI.out.xm
          have hrg' : KRange w' m r G (less left x) cnt1 := (KRange.kept (hrg1 : KRange w1 m r G (less left x) cnt1) (hb.block m hrg1.map.lt) (hb.block r hrg1.lt)).kept (hb'.block m (Nat.lt_of_lt_of_le hrg1.map.lt hb.size)) (hb'.block r (Nat.lt_of_lt_of_le hrg1.lt hb.size))
          refine ⟨hrg'.kept (v2.chg.block m hrg'.map.lt (fun z => by have := z2 m z; omega)) (v2.chg.block r hrg'.lt z3), hlo, hbw'.trans (v2.chg.below hbw'.size z2), Z', Gq', Yq', v1.congr (fun k hk => by rw [hM]; exact cp_step L left x k), fun b hb2 => ?_, fun hz => ?_, v3⟩
          · rcases (v2.new b hb2).1 with e | e
            · exact z2 b e
            · exact Nat.le_trans hbw'.size e
          · rcases (v2.new r hz).1 with e | e
            · exact z3 e
            · have := hrg'.lt; omega
      have HPUT : Hid (∀ wc v j V, M[j]? = some V → CpM wc v q mq L (updL (cpC L left) x (M.take j)) Z → Calls Tryz.prog 99 #[.pointer (some ⟨q, 0, none⟩), kv x, cvv V] v fun e w' => e = .returned (.tuple #[]) ∧ CpM wc w' q mq L (updL (cpC L left) x (M.take (j + 1))) Z) := fun wc v j V hV hv => by
        have := cpm_put wc v q mq L (updL (cpC L left) x (M.take j)) Z HG.out x HXK.out V (chn_in hchn V (List.mem_of_getElem? hV)) hv
        rw [updL_same, put_last hchn hV, updL_twice] at this
        exact this
      have hmine := KeyMine.made w1 38 zeroK zeroK_ky
      obtain ⟨hk1, hb1, hz1⟩ := laid_key w1 38 hx
      rw [zero_cells] at hmine hk1 hb1 hz1
      have HMI : Hid _ := hmine
      have HK1 : Hid _ := hk1
      have HB1 : Hid _ := hb1
      clear hmine hk1 hb1 hz1 hx hlx hgx hrg1 hlt hch1 hs1 z1 z2 z3 z4 hlo hbw1 hst1 hM hN hchn HRG HCR
      go_wp2_with (first | (have hgo := HMI.out; clear hgo; refine wpList_store_keyU (by rfl) _ _ (by rfl) w1.heap.size 0 zeroK x (by rfl) (by rfl) KX.out HMI.out ?_; intro u2 hu; rw [← hu] at HK1 HB1; clear hu HMI) | (go_at_call 122; refine (HALL.out _ HB1.out).mono ?_; rintro e w3 ⟨a3, c3, rfl, hc3, HC3, HV3, HK3, HE3⟩))
      have HKB : Hid (∀ v, Chg w3 v Z → KeyAt v w1.heap.size 0 x) := fun v hv => ⟨fun i hi => (cell_kept (HK3.out v hv w1.heap.size HK1.out.lies.lt (Nat.le_refl _)) _).trans (HK1.out.lies.cell i hi)⟩
      clear HALL HK3
      go_loopw [22] (fun iv wr2 => ∃ j : Nat, j ≤ N ∧ iv = .int .i64 j ∧ Hid (CpM w3 wr2 q mq L (updL (cpC L left) x (M.take j)) Z)) (fun iv _ => N - (intOf iv).toNat)
      case atStart => exact ⟨0, Nat.zero_le _, rfl, HC3⟩
      case round =>
        obtain ⟨j, hj, rfl, HS⟩ := hrel
        have hj0 : (0 : Int) ≤ (j : Int) := by omega
        by_cases hlt : j < N
        · have h1 : (j : Int) < (N : Int) := by omega
          obtain ⟨V, hV⟩ : ∃ V, M[j]? = some V := ⟨_, List.getElem?_eq_getElem (by rw [← HNM.out]; exact hlt)⟩
          obtain ⟨g3, rfl, hva⟩ := HV3.out _ HS.out.chg j V hV
          have HVA : Hid (CVerAt _ g3 (j * 4) V) := hva
          have CP : Hid (∀ v, CpM w3 v q mq L (updL (cpC L left) x (M.take j)) Z → Calls Tryz.prog 99 #[.pointer (some ⟨q, 0, none⟩), kv x, .agg #[.int .i64 V.t, .int .u8 V.n, .string (strOfNums V.v), .bool V.g]] v fun e w' => e = .returned (.tuple #[]) ∧ CpM w3 w' q mq L (updL (cpC L left) x (M.take (j + 1))) Z) := fun v hv => HPUT.out w3 v j V hV hv
          clear hva hV
          go_wp2_with (first | (have hgo := HVA.out; clear hgo; refine wpList_load_cver 25 (by rfl) (by rfl) _ (by rfl) g3 (j * 4) (by rfl) V HVA.out ?_) | (refine wpList_load_keyD 27 (by rfl) (by rfl) _ (by rfl) w1.heap.size 0 (by rfl) x KX.out (HKB.out _ (HS.out.past ((Below.refl _ _).alloc (Nat.le_refl _) _)).chg) ?_) | (go_at_call 99; refine (CP.out _ (HS.out.past ((Below.refl _ _).alloc (Nat.le_refl _) _))).mono ?_; rintro e w4 ⟨rfl, h4⟩; have H4 : Hid (CpM w3 w4 q mq L (updL (cpC L left) x (M.take (j + 1))) Z) := h4; clear h4))
          go_roundw
          case rel => exact ⟨j + 1, by omega, by go_num, H4⟩
          case measure => simp [intOf]; omega
        · obtain rfl : j = N := by omega
          have HS2 : Hid (CpR w _ q m mq r L G (less left x) cnt1) := HE3.out _ (by have := HS.out; rw [List.take_of_length_le (by rw [HNM.out]; exact Nat.le_refl _)] at this; exact this)
          go_wp2
          go_roundw
          case rel => exact ⟨_, _, HS2.out⟩
          case measure => rw [HS2.out.rg.left_eq, HCNT.out.2]; exact HCNT.out.1
end Go.Proofs.YtileidbdmpeciaaGreat

namespace Go.Proofs.YtileidbdmpeciaaGreat
open Go.RowKit
set_option linter.unusedVariables false
set_option linter.unusedSimpArgs false

theorem par_made (w : World) (s t : Nat) (XS XT : Foot) (h1 : StD w s [] XS) (h2 : PTab w t [] XT) (hd : ∀ k, XS k → XT k → False) :
    ParI ((w.alloc (.map #[] 0)).alloc (.cells #[.pointer (some ⟨s, 0, none⟩), .pointer (some ⟨t, 0, none⟩), .map (some w.heap.size)] 89)) (w.heap.size + 1) s t w.heap.size ⟨[], [], []⟩ [] XS XT := by
  have hb1 : Below w.heap.size w (w.alloc (.map #[] 0)) := (Below.refl _ _).alloc (Nat.le_refl _) _
  have hb : Below w.heap.size w ((w.alloc (.map #[] 0)).alloc (.cells #[.pointer (some ⟨s, 0, none⟩), .pointer (some ⟨t, 0, none⟩), .map (some w.heap.size)] 89)) := hb1.alloc hb1.size _
  have e : ∀ o, ((w.alloc (.map #[] 0)).alloc (.cells #[.pointer (some ⟨s, 0, none⟩), .pointer (some ⟨t, 0, none⟩), .map (some w.heap.size)] 89)).cell? ⟨w.heap.size + 1, o, none⟩ = (#[.pointer (some ⟨s, 0, none⟩), .pointer (some ⟨t, 0, none⟩), .map (some w.heap.size)] : Array Value)[o]? := fun o => by
    have := World.cell?_alloc_new (w.alloc (.map #[] 0)) #[.pointer (some ⟨s, 0, none⟩), .pointer (some ⟨t, 0, none⟩), .map (some w.heap.size)] 89 o
    rw [World.size_alloc] at this
    exact this
  have hm := (OMap.made w).kept (u' := (w.alloc (.map #[] 0)).alloc (.cells #[.pointer (some ⟨s, 0, none⟩), .pointer (some ⟨t, 0, none⟩), .map (some w.heap.size)] 89)) (((Below.refl _ _).alloc (Nat.le_refl _) _).block w.heap.size (by simp))
  refine ⟨e 0, e 1, e 2, h1.past hb, h2.past hb, rfl, hm.congr (fun x _ => rfl), by omega, fun h => ?_, fun h => ?_, fun h => ?_, fun h => ?_, hd, fun x hx => by simp at hx⟩
  · have := h1.lt _ h; omega
  · have := h2.lt _ h; omega
  · have := h1.lt _ h; omega
  · have := h2.lt _ h; omega
set_option maxHeartbeats 1000000 in
theorem parnew_any (w : World) :
    Calls Tryz.prog 9 #[] w fun e w' => ∃ p s t m XS XT, e = .returned (.pointer (some ⟨p, 0, none⟩)) ∧ ParI w' p s t m ⟨[], [], []⟩ [] XS XT ∧ Below w.heap.size w w' ∧ ∀ k, ParX p m XS XT k → w.heap.size ≤ k := by
  have hmm := @run_makeMap Tryz.prog
  go_enter Tryz.func9, Tryz.ntmps9
  go_wp2_with (first
    | (go_at_call 41; refine (pnew_any _).mono ?_; rintro e w2 ⟨t, XT, rfl, k1, k2, k3⟩; have HT : Hid (PTab w2 t [] XT ∧ Below w1.heap.size w1 w2 ∧ ∀ k, XT k → w1.heap.size ≤ k) := ⟨k1, k2, k3⟩; clear k1 k2 k3)
    | (go_at_call 40; refine (snew_any _).mono ?_; rintro e w1 ⟨s, XS, rfl, h1, h2, h3⟩; have HS : Hid (StD w1 s [] XS ∧ Below w.heap.size w w1 ∧ ∀ k, XS k → w.heap.size ≤ k) := ⟨h1, h2, h3⟩; clear h1 h2 h3))
  go_ret
  obtain ⟨h1, h2, h3⟩ := HS.out
  obtain ⟨k1, k2, k3⟩ := HT.out
  have hb := h2.trans (k2.mono h2.size)
  have hsz := hb.size
  refine ⟨_, _, _, _, XS, XT, rfl, par_made w2 s t XS XT (h1.past k2) k1 (fun k x y => ?_), (hb.alloc hsz _).alloc (by simp; omega) _, fun k hk => ?_⟩
  · have := h1.lt k x
    have := k3 k y
    omega
  · have := h2.size
    rcases hk with e | e | e | e
    · omega
    · omega
    · exact h3 k e
    · exact Nat.le_trans h2.size (k3 k e)
/-- Has's answer, written out. -/
theorem phas_lit (p : Nat) (M : List EntM) (X : Foot) (id : Int) (w : World) (h : PTab w p M X) :
    Calls Tryz.prog 48 #[.pointer (some ⟨p, 0, none⟩), .int .i64 id] w fun e w' => (∃ (a0 a1 a2 a3 a4 : Int) (a : Option Addr) (n c : Nat), e = .returned (.tuple #[.agg #[.int .i64 a0, .int .i64 a1, .int .u8 a2, .int .i64 a3, .int .u8 a4, .slice a n c], .bool (hasM M id).isSome])) ∧ Below w.heap.size w w' := by
  refine (phas_any p M X id w h).mono ?_
  rintro e w' ⟨⟨Y, rfl, _⟩, hb⟩
  exact ⟨⟨_, _, _, _, _, _, _, _, rfl⟩, hb⟩
set_option maxHeartbeats 2000000 in
theorem pstate_any {p s t m : Nat} {P : PSt} {M : List EntM} {XS XT : Foot} (id : Int) (hid : I64 id) (w : World) (h : ParI w p s t m P M XS XT) (ho : ∀ e ∈ P.T, overP P.O e.id = none) :
    Calls Tryz.prog 19 #[.pointer (some ⟨p, 0, none⟩), .int .i64 id] w fun e w' => e = .returned (.int .i64 (stateP P id)) ∧ Below w.heap.size w w' := by
  have CH : Hid (Calls Tryz.prog 48 #[.pointer (some ⟨t, 0, none⟩), .int .i64 id] w fun e w' => (∃ (a0 a1 a2 a3 a4 : Int) (a : Option Addr) (n c : Nat), e = .returned (.tuple #[.agg #[.int .i64 a0, .int .i64 a1, .int .u8 a2, .int .i64 a3, .int .u8 a4, .slice a n c], .bool (hasM M id).isSome])) ∧ Below w.heap.size w w') := phas_lit t M XT id w h.tab
  have q1 := h.c1
  have HC : Hid (∀ u, Below w.heap.size w u → u.cell? ⟨p, 2, none⟩ = some (.map (some m)) ∧ (Instr.lookup 87 (.map (some m)) (.int .i64 id) false).run Tryz.prog u = .ok (.int .i64 ((overP P.O id).getD 0)) u) := fun u hu => ⟨(h.past hu).c2, (h.past hu).map.look Tryz.underlying87 hid⟩
  obtain ⟨R, hR⟩ : ∃ R, R = stateP P id := ⟨_, rfl⟩
  obtain ⟨L, hL⟩ : ∃ L, L = (overP P.O id).getD 0 := ⟨_, rfl⟩
  rw [← hR]
  rw [← hL] at HC
  have hh := hasM_e M id
  cases hm : hasM M id with
  | none =>
    have HF : Hid (R = L) := by
      show R = L
      rw [hm, h.is] at hh
      rw [hR, hL]
      unfold stateP
      rw [← hh]
      cases overP P.O id <;> rfl
    rw [hm] at CH
    have CH2 : Hid (Calls Tryz.prog 48 #[.pointer (some ⟨t, 0, none⟩), .int .i64 id] w fun e w' => (∃ (a0 a1 a2 a3 a4 : Int) (a : Option Addr) (n c : Nat), e = .returned (.tuple #[.agg #[.int .i64 a0, .int .i64 a1, .int .u8 a2, .int .i64 a3, .int .u8 a4, .slice a n c], .bool false])) ∧ Below w.heap.size w w') := CH
    clear hR hL hh hm h ho CH
    go_enter Tryz.func19, Tryz.ntmps19
    go_wp2_with (first | (go_at_call 48; refine CH2.out.mono ?_; rintro e w1 ⟨⟨a0, a1, a2, a3, a4, a, n, c, rfl⟩, hb⟩; have B1 : Hid (Below w.heap.size w w1) := hb; have q2 : ∀ o, (w1.alloc o).cell? ⟨p, 2, none⟩ = some (.map (some m)) := fun o => (HC.out _ (hb.alloc hb.size o)).1; have k2 : ∀ o, (Instr.lookup 87 (.map (some m)) (.int .i64 id) false).run Tryz.prog (w1.alloc o) = .ok (.int .i64 L) (w1.alloc o) := fun o => (HC.out _ (hb.alloc hb.size o)).2; clear hb CH2))
    go_ret
    exact ⟨by rw [HF.out]; rfl, B1.out.alloc B1.out.size _⟩
  | some x =>
    have HF : Hid (R = 1) := by
      show R = 1
      rw [hm, h.is] at hh
      have hx : hasT P.T id = some x.e := hh.symm
      have hmem : x.e ∈ P.T := List.mem_of_find?_eq_some hx
      have hide : x.e.id = id := of_decide_eq_true (List.find?_some (p := fun e : Ent => decide (e.id = id)) hx)
      have h9 := ho _ hmem
      rw [hide] at h9
      rw [hR]
      unfold stateP
      rw [h9, hx]
      rfl
    rw [hm] at CH
    have CH2 : Hid (Calls Tryz.prog 48 #[.pointer (some ⟨t, 0, none⟩), .int .i64 id] w fun e w' => (∃ (a0 a1 a2 a3 a4 : Int) (a : Option Addr) (n c : Nat), e = .returned (.tuple #[.agg #[.int .i64 a0, .int .i64 a1, .int .u8 a2, .int .i64 a3, .int .u8 a4, .slice a n c], .bool true])) ∧ Below w.heap.size w w') := CH
    clear hR hL hh hm h ho CH HC
    go_enter Tryz.func19, Tryz.ntmps19
    go_wp2_with (first | (go_at_call 48; refine CH2.out.mono ?_; rintro e w1 ⟨⟨a0, a1, a2, a3, a4, a, n, c, rfl⟩, hb⟩; have B1 : Hid (Below w.heap.size w w1) := hb; clear hb CH2))
    go_ret
    exact ⟨by rw [HF.out]; rfl, B1.out.alloc B1.out.size _⟩
set_option maxHeartbeats 2000000 in
/-- A transaction is over. -/
theorem pend_any {p s t m : Nat} {P : PSt} {M : List EntM} {XS XT : Foot} (id how : Int) (hid : I64 id) (w : World) (h : ParI w p s t m P M XS XT) (O' : List (Int × Int)) (hO : P.O.length ≤ 1000000) (hO' : (overP P.O id = none ∧ O' = P.O ++ [(id, how)]) ∨ (overP P.O id = some how ∧ O' = P.O)) :
    Calls Tryz.prog 51 #[.pointer (some ⟨p, 0, none⟩), .int .i64 id, .int .i64 how] w fun e w' => (∃ v, e = .returned v) ∧ ParL w w' p s t m M XS XT ⟨P.S, dropT P.T id, O'⟩ := by
  have CD : Hid (Calls Tryz.prog 100 #[.pointer (some ⟨t, 0, none⟩), .int .i64 id] w fun e w' => (∃ v, e = .returned v) ∧ ParL w w' p s t m M XS XT ⟨P.S, dropT P.T id, P.O⟩) := by
    refine (pdrop_any t M XT id w h.tab).mono ?_
    rintro e w' ⟨rfl, h1, h2, _⟩
    have h3 := h.turnT h1 h2 (fun x hx => .inl (List.mem_filter.1 hx).1)
    rw [dropM_e, h.is] at h3
    exact ⟨⟨_, rfl⟩, h3⟩
  have q1 := h.c1
  have HID : Hid (I64 id) := hid
  have HO : Hid (P.O.length ≤ 1000000) := hO
  have HO' : Hid ((overP P.O id = none ∧ O' = P.O ++ [(id, how)]) ∨ (overP P.O id = some how ∧ O' = P.O)) := hO'
  clear h hid hO hO'
  go_enter Tryz.func51, Tryz.ntmps51
  go_wp2_with (first
    | (at_mapUpdate; refine wpList_store_ints rfl _ _ _ 87 rfl Tryz.underlying87 m P.O.length (overP P.O) (by rfl) H1.out.map HO.out id (by rfl) HID.out how (by rfl) ?_; intro w2 h1 h2; have H2 : Hid (OMap w2 m (if (overP P.O id).isSome then P.O.length else P.O.length + 1) (putI2 (overP P.O) id (some how)) ∧ w1.mapTurned w2 m) := ⟨h1, h2⟩; clear h1 h2)
    | (go_at_call 100; refine CD.out.mono ?_; rintro e w1 ⟨⟨v, rfl⟩, M1, XS1, XT1, h1, h2, h3⟩; have H1 : Hid (ParI w1 p s t m ⟨P.S, dropT P.T id, P.O⟩ M1 XS1 XT1) := h1; have H3 : Hid (Did w w1 (ParX p m XS XT) (ParX p m XS1 XT1) ∧ NewW w M M1) := ⟨h2, h3⟩; have q2 := h1.c2; clear h1 h2 h3 CD))
  go_end0
  refine ⟨⟨_, rfl⟩, ParL.then ⟨M1, XS1, XT1, H1.out, H3.out⟩ (fun M2 XS2 XT2 hM2 => ?_)⟩
  obtain ⟨x1, x2⟩ := H2.out
  refine hM2.turnO x2 ?_
  rcases HO'.out with ⟨e1, e2⟩ | ⟨e1, e2⟩
  · rw [e1] at x1
    rw [e2]
    exact (x1.more (by simp)).congr (fun x _ => by rw [over_put e1])
  · rw [e1] at x1
    rw [e2]
    exact (x1.more (by simp)).congr (fun x _ => by rw [over_same e1])
set_option maxHeartbeats 2000000 in
theorem ptrim_any {p s t m : Nat} {P : PSt} {M : List EntM} {XS XT : Foot} (tt n : Int) (w : World) (h : ParI w p s t m P M XS XT) :
    Calls Tryz.prog 29 #[.pointer (some ⟨p, 0, none⟩), .agg #[.int .i64 tt, .int .u8 n]] w fun e w' => e = .returned (.int .i64 (trimP P tt n).1) ∧ ParL w w' p s t m M XS XT (trimP P tt n).2 := by
  obtain ⟨W0, hW0⟩ : ∃ u, u = w.alloc (.cells #[.int .i64 tt, .int .u8 n] 28) := ⟨_, rfl⟩
  have HW0 : Hid (w.alloc (.cells #[.int .i64 tt, .int .u8 n] 28) = W0) := hW0.symm
  have hb0 : Below w.heap.size w W0 := by rw [hW0]; exact (Below.refl _ _).alloc (Nat.le_refl _) _
  have e0 : W0.heap.size = w.heap.size + 1 := by rw [hW0]; simp
  have FSS : Hid (∀ u, Below W0.heap.size W0 u → u.cell? ⟨w.heap.size, 0, none⟩ = some (.int .i64 tt) ∧ u.cell? ⟨w.heap.size, 1, none⟩ = some (.int .u8 n)) := fun u hu => by
    refine ⟨(hu.cell (p := ⟨w.heap.size, 0, none⟩) (by show w.heap.size < _; omega)).trans ?_, (hu.cell (p := ⟨w.heap.size, 1, none⟩) (by show w.heap.size < _; omega)).trans ?_⟩
    · rw [hW0, World.cell?_alloc_new]; rfl
    · rw [hW0, World.cell?_alloc_new]; rfl
  have HQ : Hid (∀ u, Below W0.heap.size W0 u → Below w.heap.size w u ∧ u.cell? ⟨p, 0, none⟩ = some (.pointer (some ⟨s, 0, none⟩))) := fun u hu => by
    have hb := hb0.trans (hu.mono hb0.size)
    exact ⟨hb, (h.past hb).c0⟩
  obtain ⟨R, hR⟩ : ∃ R, R = (trimP P tt n).1 := ⟨_, rfl⟩
  rw [← hR]
  have CT : Hid (∀ u, Below w.heap.size w u → Calls Tryz.prog 72 #[.pointer (some ⟨s, 0, none⟩), .agg #[.int .i64 tt, .int .u8 n]] u fun e w' => e = .returned (.int .i64 R) ∧ ParL w w' p s t m M XS XT (trimP P tt n).2) := fun u hu => by
    refine (strim_any s P.S XS tt n u (h.past hu).sto).mono ?_
    rintro e w' ⟨rfl, XS', h1, h2⟩
    exact ⟨by rw [hR]; rfl, ParL.since h hu ((h.past hu).turnS h1 h2)⟩
  clear h hW0 hb0 e0 hR
  go_enter Tryz.func29, Tryz.ntmps29
  go_wp2
  rw [HW0.out]
  refine wp_region_noPanic ?_
  refine region_up 5 (fun u => Below W0.heap.size W0 u) (by kernel_rfl) ?_ (fun hHeld => ?_)
  · exact (Below.refl _ _).drew
  refine up_take (i := 0) (v := ?_) (by kernel_rfl) (by kernel_rfl) (by kernel_rfl) rfl (by kernel_rfl) (by kernel_rfl) (by kernel_rfl) (fun _ _ _ h => h) (Or.inl ⟨by rfl, ?_⟩) hHeld ?_
  rotate_left
  · intro u hSu
    (go_simp) <;> (with_reducible rfl)
  change wpUp _ _ _ _ _ _ _ _ (Act.put _ (some 5) _) _
  simp only [Act.put, List.setIfInBounds_toArray, List.set_cons_zero, List.set_cons_succ]
  refine up_take (i := 1) (v := ?_) (by kernel_rfl) (by kernel_rfl) (by kernel_rfl) rfl (by kernel_rfl) (by kernel_rfl) (by kernel_rfl) (fun _ _ _ h => h) (Or.inl ⟨by rfl, ?_⟩) hHeld ?_
  rotate_left
  · intro u hSu
    (go_simp) <;> (with_reducible rfl)
  change wpUp _ _ _ _ _ _ _ _ (Act.put _ (some 6) _) _
  simp only [Act.put, List.setIfInBounds_toArray, List.set_cons_zero, List.set_cons_succ]
  refine up_take (i := 2) (v := ?_) (by kernel_rfl) (by kernel_rfl) (by kernel_rfl) rfl (by kernel_rfl) (by kernel_rfl) (by kernel_rfl) (fun _ _ _ h => h) (Or.inl ⟨by rfl, ?_⟩) hHeld ?_
  rotate_left
  · intro u hSu
    (go_simp) <;> (with_reducible rfl)
  change wpUp _ _ _ _ _ _ _ _ (Act.put _ (some 7) _) _
  simp only [Act.put, List.setIfInBounds_toArray, List.set_cons_zero, List.set_cons_succ]
  refine up_take (i := 3) (v := ?_) (by kernel_rfl) (by kernel_rfl) (by kernel_rfl) rfl (by kernel_rfl) (by kernel_rfl) (by kernel_rfl) (fun _ _ _ h => h) (Or.inl ⟨by rfl, ?_⟩) hHeld ?_
  rotate_left
  · intro u hSu
    have q0 := (HQ.out u hSu).2
    (go_simp) <;> (with_reducible rfl)
  change wpUp _ _ _ _ _ _ _ _ (Act.put _ (some 8) _) _
  simp only [Act.put, List.setIfInBounds_toArray, List.set_cons_zero, List.set_cons_succ]
  refine up_take (i := 4) (v := ?_) (by kernel_rfl) (by kernel_rfl) (by kernel_rfl) rfl (by kernel_rfl) (by kernel_rfl) (by kernel_rfl) (fun _ _ _ h => h) (Or.inl ⟨by rfl, ?_⟩) hHeld ?_
  rotate_left
  · intro u hSu
    obtain ⟨s0, s1⟩ := FSS.out u hSu
    (go_simp) <;> (with_reducible rfl)
  change wpUp _ _ _ _ _ _ _ _ (Act.put _ (some 9) _) _
  simp only [Act.put, List.setIfInBounds_toArray, List.set_cons_zero, List.set_cons_succ]
  refine up_ready (rs := [5]) (by kernel_rfl) (by simp) ?_
  refine AllUp.that rfl (fun K hK => ?_) AllUp.nil
  go_simp
  go_at_call 72
  refine (CT.out _ (HQ.out _ hHeld).1).mono ?_
  rintro e w5 ⟨rfl, d1⟩
  have G5 : Hid (ParL w w5 p s t m M XS XT (trimP P tt n).2) := d1; clear d1
  refine hK.out _ _ ?_
  clear hK K hHeld
  refine up_after (i := 6) (v := ?_) (by kernel_rfl) (by kernel_rfl) rfl (Or.inl ⟨by rfl, ?_⟩) ?_
  rotate_left
  · intro u hSu
    (go_simp) <;> (with_reducible rfl)
  change wpUp _ _ _ _ _ _ _ _ (Act.put _ (some 4) _) _
  simp only [Act.put, List.setIfInBounds_toArray, List.set_cons_zero, List.set_cons_succ]
  refine up_done (by kernel_rfl) ?_
  refine NoPanic.normal ?_
  go_wp2
  go_ret
  exact ⟨rfl, G5.out⟩
set_option maxHeartbeats 1000000 in
theorem pstore_any {p s t m : Nat} {P : PSt} {M : List EntM} {XS XT : Foot} (w : World) (h : ParI w p s t m P M XS XT) :
    Calls Tryz.prog 38 #[.pointer (some ⟨p, 0, none⟩)] w fun e w' => ∃ q Z, e = .returned (.pointer (some ⟨q, 0, none⟩)) ∧ StD w' q P.S Z ∧ Below w.heap.size w w' ∧ ∀ k, Z k → w.heap.size ≤ k := by
  have CC : Hid (Calls Tryz.prog 81 #[.pointer (some ⟨s, 0, none⟩)] w fun e w' => ∃ q Z, e = .returned (.pointer (some ⟨q, 0, none⟩)) ∧ StD w' q P.S Z ∧ Below w.heap.size w w' ∧ ∀ k, Z k → w.heap.size ≤ k) := scopy_any s P.S XS w h.sto
  have q0 := h.c0
  clear h
  go_enter Tryz.func38, Tryz.ntmps38
  go_wp2_with (first | (go_at_call 81; refine CC.out.mono ?_; rintro e w1 ⟨q, Z, rfl, h1, h2, h3⟩; have H1 : Hid (StD w1 q P.S Z ∧ Below w.heap.size w w1 ∧ ∀ k, Z k → w.heap.size ≤ k) := ⟨h1, h2, h3⟩; clear h1 h2 h3 CC))
  go_ret
  exact ⟨q, Z, rfl, H1.out.1, H1.out.2.1, H1.out.2.2⟩
end Go.Proofs.YtileidbdmpeciaaGreat

