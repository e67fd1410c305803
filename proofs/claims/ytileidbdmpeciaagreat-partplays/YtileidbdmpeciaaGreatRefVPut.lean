/-
  One version more (hourglassref10: Store.Put).
-/
import Derived.Test.YtileidbdmpeciaaGreatAu93
import Derived.Test.YtileidbdmpeciaaGreatAu116
import Derived.Test.YtileidbdmpeciaaGreatAu117
namespace Go.Proofs.YtileidbdmpeciaaGreat
open Go.RowKit
set_option linter.unusedVariables false

theorem info_verl (V : Ver) (h : Ky V.k) : (Tryz.prog.info? 127).map (·.size) = some (encV V).length := by rw [info_ver, enc_len h]
/-- The store's list has turned. -/
theorem StoreR.turn {w u : World} {B p : Nat} {L L' : List Ver} {a : Option Addr} {c n : Nat} (h : StoreR w B p L) (hb : Below w.heap.size w u) (hn : L'.length = n) (ho : u.ownsRow w.heap.size 127 20 (.slice a n c) n (L'.flatMap encV)) (hB : B ≤ w.heap.size) (hok : OkL L') (hf : n ≤ 1000000) :
    StoreR (u.setCell ⟨p, 0, none⟩ (.slice a n c)) B p L' ∧ Chg w (u.setCell ⟨p, 0, none⟩ (.slice a n c)) (fun k => k = p) := by
  subst hn
  obtain ⟨a0, c0, h1, _, _⟩ := h.list
  have hp := (hb.cell (p := ⟨p, 0, none⟩) h.lt).trans h1
  have hne : ∀ k, (Value.slice a L'.length c).ownBlock = some k → k ≠ p := fun k e => by have := (ho.lt k e).1; have := h.lt; omega
  refine ⟨⟨by rw [World.size_setCell]; exact Nat.lt_of_lt_of_le h.lt hb.size, h.lo, ⟨a, c, World.cell?_setCell_same _ _ _ hp, ?_, hne⟩, by rw [World.frozen?_setCell]; exact (hb.frozen (p := ⟨p, 0, none⟩) h.lt).trans h.free, hok, hf⟩, (Chg.of_below hb _).trans (Chg.set u ⟨p, 0, none⟩ _ (X := fun k => k = p) rfl) (fun _ _ x => x)⟩
  obtain ⟨hl, h0 | ⟨g, cap, cur, hv, hg, hh, r⟩⟩ := ho
  · exact ⟨hl, .inl h0⟩
  · refine ⟨hl, .inr ⟨g, cap, cur, hv, Nat.le_trans hB hg, ?_, r⟩⟩
    rw [Below.heap_setCell _ ⟨p, 0, none⟩ _ g (fun e => by have := h.lt; have e' : g = p := e; omega)]
    exact hh
theorem eq_st (u : World) (t n t' n' : Int) : (Op.equalIn 10000 28 (.agg #[.int .i64 t, .int .u8 n]) (.agg #[.int .i64 t', .int .u8 n'])).run Tryz.prog u = .ok (decide (t = t' ∧ n = n')) u := by
  go_simp
  by_cases h1 : t = t' <;> by_cases h2 : n = n' <;> simp [h1, h2]
theorem own_lower10 {w : World} {base base' n e size : Nat} {v : Value} {xs : List Value} (h : w.ownsRow base e size v n xs) (hb : base' ≤ base) : w.ownsRow base' e size v n xs :=
  ⟨h.1, h.2.elim Or.inl (fun ⟨g, cap, cur, hv, hg, r⟩ => Or.inr ⟨g, cap, cur, hv, Nat.le_trans hb hg, r⟩)⟩
theorem clash_none {L : List Ver} {V : Ver} (h : putR L V = kMany L V.k) : clashV L V = false := by
  unfold clashV
  rw [List.getElem?_eq_none (by rw [chain_len, h]; exact Nat.le_refl _)]
theorem clash_some {L : List Ver} {V X : Ver} (h : putR L V < kMany L V.k) (hX : L[kFrom L V.k + putR L V]? = some X) : clashV L V = decide (X.t = V.t ∧ X.n = V.n) := by
  unfold clashV
  rw [chain_at L V.k _ h, hX]
theorem ins_ok {L : List Ver} {V : Ver} (h : OkL L) (hV : VerOk V) (k : Nat) : OkL (L.take k ++ V :: L.drop k) := fun X hX => by
  rcases List.mem_append.1 hX with e | e
  · exact h X (List.mem_of_mem_take e)
  · rcases List.mem_cons.1 e with rfl | e
    · exact hV
    · exact h X (List.mem_of_mem_drop e)
set_option maxHeartbeats 8000000 in
set_option maxRecDepth 8000 in
theorem rput10_any (B p : Nat) (L : List Ver) (V : Ver) (hV : VerOk V) (w : World) (h : StoreR w B p L) (hB : B ≤ w.heap.size) (hL : L.length + 1 ≤ 1000000) :
    Calls Tryz.prog 115 #[.pointer (some ⟨p, 0, none⟩), vv V] w fun e w' => e = .returned (.int .i64 (putV L V).1) ∧ StoreR w' B p (putV L V).2 ∧ Chg w w' (fun k => k = p) := by
  obtain ⟨V0, hV0⟩ : ∃ V0, V0 = w.alloc (.cells (encV V).toArray 127) := ⟨_, rfl⟩
  have HBW : Hid (Below w.heap.size w V0) := by rw [hV0]; exact (Below.refl _ _).alloc (Nat.le_refl _) _
  have HVM : Hid (VerAt V0 w.heap.size 0 V) := by rw [hV0]; exact VerAt.made w 127 V
  have HV0 : Hid (w.alloc (.cells (encV V).toArray 127) = V0) := hV0.symm
  have HVK : Hid (Ky V.k) := hV.key
  have HVO : Hid (VerOk V) := hV
  obtain ⟨i, hi⟩ : ∃ i, i = kFrom L V.k := ⟨_, rfl⟩
  obtain ⟨m, hm⟩ : ∃ m, m = kMany L V.k := ⟨_, rfl⟩
  have hle := kMany_le L V.k
  obtain ⟨E, hE⟩ : ∃ E, E = i + m := ⟨_, rfl⟩
  obtain ⟨N, hN⟩ : ∃ N, N = L.length := ⟨_, rfl⟩
  obtain ⟨a0, c0, hcap, hcell, hs⟩ := h.open
  rw [← hN] at hcap hcell hle hL
  rw [← hi, ← hm] at hle
  have CM : Hid (∀ u, Calls Tryz.prog 148 #[vv V] u fun e w' => e = .returned (.bool (mayV V)) ∧ Below u.heap.size u w') := fun u => rmayv_any V hV u
  have CH : Hid (∀ u, Below w.heap.size w u → Calls Tryz.prog 112 #[.pointer (some ⟨p, 0, none⟩), kv V.k] u fun e w' => e = .returned (.tuple #[.int .i64 (i : Nat), .int .i64 (E : Nat)]) ∧ Below u.heap.size u w') := fun u hb => by
    rw [hE, hi, hm]; exact rchain_any B p L V.k hV.key u (h.past hb)
  have HST : Hid (StoreR w B p L) := h
  have HCE : Hid (∀ v, Below w.heap.size w v → v.cell? ⟨p, 0, none⟩ = some (.slice a0 N c0)) := hcell
  have HOK : Hid (OkL L) := h.oks
  have HN : Hid (L.length = N) := hN.symm
  have HI : Hid (kFrom L V.k = i) := hi.symm
  have HM : Hid (kMany L V.k = m) := hm.symm
  have HA : Hid (∀ ad, a0 = some ad → ∃ bb, ad = ⟨bb, 0, none⟩) := fun ad e => by
    obtain ⟨a, c, e1, e2, _⟩ := h.list
    have e3 := hcell w (Below.refl _ _)
    rw [e1] at e3
    injection e3 with e3
    injection e3 with e4 e5 e6
    subst e4
    rcases e2.2 with ⟨e7, _⟩ | ⟨g, _, _, e7, _⟩
    · rw [e] at e7; cases e7
    · rw [e] at e7; injection e7 with e8; injection e8 with e8; exact ⟨g, e8⟩
  have hnil : a0 = none → c0 = 0 ∧ N = 0 := fun e => by
    obtain ⟨a, c, e1, e2, _⟩ := h.list
    have e3 := hcell w (Below.refl _ _)
    rw [e1] at e3
    injection e3 with e3
    injection e3 with e4 e5 e6
    subst e4; subst e6
    rcases e2.2 with ⟨e7, e8⟩ | ⟨g, _, _, e7, _⟩
    · injection e7 with _ _ e9; exact ⟨e9, by omega⟩
    · rw [e] at e7; cases e7
  have HLI : Hid (∀ v, Below w.heap.size w v → Lies v a0 (L.flatMap encV)) := fun v hb => by
    obtain ⟨a, c, e1, e2, _⟩ := h.list
    have e3 := hcell w (Below.refl _ _)
    rw [e1] at e3
    injection e3 with e3
    injection e3 with e4 e5 e6
    subst e4
    rcases e2.2 with ⟨e7, _⟩ | ⟨g, cap, _, e7, _⟩
    · injection e7 with e8; rw [e8]; exact lies_none _ _
    · injection e7 with e8 _ e9; subst e8; exact (own_lies e2).past hb
  have HS : Hid (L ≠ [] → ∃ g, a0 = some ⟨g, 0, none⟩ ∧ Hid (∀ v, Below w.heap.size w v → ∀ i V, L[i]? = some V → VerAt v g (i * 20) V)) := fun hne => by
    rcases hs with e | ⟨g, e1, _, _, e4⟩
    · exact absurd e hne
    · exact ⟨g, e1, e4⟩
  obtain ⟨PV, hPV⟩ : ∃ PV, PV = putV L V := ⟨_, rfl⟩
  have HPV : Hid (PV = putV L V) := hPV
  rw [← hPV]
  obtain ⟨t, n, ht, hn⟩ : ∃ t n, t = V.t ∧ n = V.n := ⟨_, _, rfl, rfl⟩
  have HTN : Hid (t = V.t ∧ n = V.n) := ⟨ht, hn⟩
  have CC : Hid (∀ t1 n1 u, Calls Tryz.prog 39 #[.agg #[.int .i64 t1, .int .u8 n1], .agg #[.int .i64 t, .int .u8 n]] u fun e w' => e = .returned (.int .i64 (cmpS t1 n1 t n)) ∧ Below u.heap.size u w') := fun t1 n1 u => rcmp6_any t1 n1 t n u
  have HEE : Hid (E = i + m) := hE
  clear h hs hcell hi hm hN hPV hV0 hV ht hn hE
  cases hmay : mayV V with
  | false =>
    have HE : Hid (PV = (1, L)) := by show PV = _; rw [HPV.out]; unfold putV; rw [if_pos hmay]
    rw [hmay] at CM
    clear hmay
    go_enter Tryz.func115, Tryz.ntmps115
    go_wp2_with (first | (with_reducible show wpList _ _ _ (Oper.mk (some 4) _ _ _ _ _ :: _) _ _; rw [HV0.out]; fail) | ((with_reducible show wpList _ _ _ (Oper.mk (some 8) _ _ _ _ _ :: _) _ _); rw [HV0.out]; refine wpList_load_ver 8 (by rfl) (by rfl) _ (by rfl) w.heap.size 0 (by rfl) V HVK.out HVM.out ?_) | (go_at_call 148; refine (CM.out _).mono ?_; rintro e w1 ⟨rfl, hb1⟩; have B1 : Hid (Below w.heap.size w w1) := HBW.out.trans (hb1.mono HBW.out.size); clear hb1))
    go_ret
    rw [HE.out]
    exact ⟨rfl, HST.out.past B1.out, Chg.of_below B1.out _⟩
  | true =>
    rw [hmay] at CM
    have HPV2 : Hid (PV = if clashV L V = true then (5, L) else if 50 ≤ m then (6, L) else (0, L.take (putAt L V) ++ V :: L.drop (putAt L V))) := by show PV = _; rw [HPV.out, ← HM.out]; unfold putV; rw [if_neg (by rw [hmay]; simp)]
    clear hmay HPV
    go_enter Tryz.func115, Tryz.ntmps115
    go_wp2_with (first | ((with_reducible show wpList _ _ _ (Oper.mk (some 8) _ _ _ _ _ :: _) _ _); rw [HV0.out]; refine wpList_load_ver 8 (by rfl) (by rfl) _ (by rfl) w.heap.size 0 (by rfl) V HVK.out HVM.out ?_) | (go_at_call 148; refine (CM.out _).mono ?_; rintro e w1 ⟨rfl, hb1⟩; have B1 : Hid (Below V0.heap.size V0 w1) := hb1; clear hb1) | ((with_reducible show wpList _ _ _ (Oper.mk (some 14) _ _ _ _ _ :: _) _ _); refine wpList_load_keyD 14 (by rfl) (by rfl) _ (by rfl) w.heap.size 0 (by rfl) V.k HVK.out ((HVM.out.past B1.out).key HVK.out) ?_) | (go_at_call 112; refine (CH.out _ (HBW.out.trans (B1.out.mono HBW.out.size))).mono ?_; rintro e w2 ⟨rfl, hb1⟩; have B2 : Hid (Below V0.heap.size V0 w2) := B1.out.trans (hb1.mono B1.out.size); clear hb1))
    go_loopw [7] (fun jv wr => ∃ r : Nat, jv = .int .i64 ((i + r : Nat) : Int) ∧ r ≤ m ∧ Hid (Below V0.heap.size V0 wr) ∧ Hid (∀ j X, j < r → L[i + j]? = some X → cmpS X.t X.n t n < 0)) (fun jv _ => E - (intOf jv).toNat)
    case atStart => exact ⟨0, by simp, Nat.zero_le _, B2.out, fun j X hj => absurd hj (Nat.not_lt_zero _)⟩
    case round =>
      obtain ⟨r, rfl, hr, HBwr, HX⟩ := hrel
      obtain ⟨J, hJ⟩ : ∃ J, J = i + r := ⟨_, rfl⟩
      have HJ : Hid (J = i + r) := hJ
      rw [← hJ]
      by_cases hlt : r < m
      · have bl : decide ((J : Int) < (E : Int)) = true := decide_eq_true (by have := HEE.out; omega)
        have hJE : J < E := by have := HEE.out; omega
        have hJN : J < N := by omega
        obtain ⟨V1, hV1⟩ : ∃ V, L[J]? = some V := ⟨_, List.getElem?_eq_getElem (by rw [HN.out]; exact hJN)⟩
        have HV1 : Hid (L[J]? = some V1) := hV1
        obtain ⟨g, hag, HG⟩ := HS.out (by intro e; rw [e] at hV1; simp at hV1)
        have HAG : Hid (a0 = some ⟨g, 0, none⟩) := hag
        obtain ⟨t1, n1, ht1, hn1⟩ : ∃ t1 n1, t1 = V1.t ∧ n1 = V1.n := ⟨_, _, rfl, rfl⟩
        have HT1 : Hid (t1 = V1.t ∧ n1 = V1.n) := ⟨ht1, hn1⟩
        obtain ⟨c1, hc1⟩ : ∃ c, c = cmpS t1 n1 t n := ⟨_, rfl⟩
        have HC1 : Hid (c1 = cmpS t1 n1 t n) := hc1
        have CC1 : Hid (∀ u, Calls Tryz.prog 39 #[.agg #[.int .i64 t1, .int .u8 n1], .agg #[.int .i64 t, .int .u8 n]] u fun e w' => e = .returned (.int .i64 c1) ∧ Below u.heap.size u w') := fun u => by rw [hc1]; exact CC.out t1 n1 u
        clear hV1 hag ht1 hn1 hc1 hJ
        have BWwr : Hid (Below w.heap.size w wr) := HBW.out.trans (HBwr.out.mono HBW.out.size)
        have FT : Hid (∀ u, Below wr.heap.size wr u → u.cell? ⟨w.heap.size, 16, none⟩ = some (.int .i64 t) ∧ u.cell? ⟨w.heap.size, 17, none⟩ = some (.int .u8 n)) := fun u hb => by
          have := (HVM.out.past (HBwr.out.trans (hb.mono HBwr.out.size))).cells0 HVK.out
          rw [HTN.out.1, HTN.out.2]
          exact ⟨this.1, this.2.1⟩
        have HC0 : Hid (∀ u, Below wr.heap.size wr u → u.cell? ⟨p, 0, none⟩ = some (.slice (some ⟨g, 0, none⟩) N c0)) := fun u hb => by rw [← HAG.out]; exact HCE.out u (BWwr.out.trans (hb.mono BWwr.out.size))
        have FZ : Hid (∀ u, Below wr.heap.size wr u → u.cell? ⟨g, J * 20 + 16, none⟩ = some (.int .i64 t1) ∧ u.cell? ⟨g, J * 20 + 17, none⟩ = some (.int .u8 n1)) := fun u hb => by
          have := (HG.out u (BWwr.out.trans (hb.mono BWwr.out.size)) _ _ HV1.out).cells (HOK.out V1 (List.mem_of_getElem? HV1.out)).key
          rw [HT1.out.1, HT1.out.2]
          exact ⟨this.1, this.2.1⟩
        by_cases hless : c1 < 0
        · have bc : decide (c1 < 0) = true := decide_eq_true hless
          go_wp2
          refine wp_region_noPanic ?_
          refine wp_region_held_drew (S := fun u => Below wr.heap.size wr u) (by kernel_rfl) ?_ (fun hHeld => ?_)
          · exact (Below.refl _ _).drew
          refine wpAnyH_take (i := 0) (v := ?_) rfl (by kernel_rfl) (by kernel_rfl) (by kernel_rfl) (fun _ _ _ h => h) (Or.inl ⟨by rfl, ?_⟩) hHeld ?_
          rotate_left
          · intro u hSu
            (go_simp) <;> (with_reducible rfl)
          change wpAnyH _ _ _ _ _ _ _ (Act.put _ (some 19) _) _
          simp only [Act.put, List.setIfInBounds_toArray, List.set_cons_zero, List.set_cons_succ]
          refine wpAnyH_take (i := 1) (v := ?_) rfl (by kernel_rfl) (by kernel_rfl) (by kernel_rfl) (fun _ _ _ h => h) (Or.inl ⟨by rfl, ?_⟩) hHeld ?_
          rotate_left
          · intro u hSu
            (go_simp) <;> (with_reducible rfl)
          change wpAnyH _ _ _ _ _ _ _ (Act.put _ (some 20) _) _
          simp only [Act.put, List.setIfInBounds_toArray, List.set_cons_zero, List.set_cons_succ]
          refine wpAnyH_take (i := 2) (v := ?_) rfl (by kernel_rfl) (by kernel_rfl) (by kernel_rfl) (fun _ _ _ h => h) (Or.inl ⟨by rfl, ?_⟩) hHeld ?_
          rotate_left
          · intro u hSu
            (go_simp) <;> (with_reducible rfl)
          change wpAnyH _ _ _ _ _ _ _ (Act.put _ (some 21) _) _
          simp only [Act.put, List.setIfInBounds_toArray, List.set_cons_zero, List.set_cons_succ]
          refine wpAnyH_take (i := 3) (v := ?_) rfl (by kernel_rfl) (by kernel_rfl) (by kernel_rfl) (fun _ _ _ h => h) (Or.inl ⟨by rfl, ?_⟩) hHeld ?_
          rotate_left
          · intro u hSu
            (go_simp) <;> (with_reducible rfl)
          change wpAnyH _ _ _ _ _ _ _ (Act.put _ (some 22) _) _
          simp only [Act.put, List.setIfInBounds_toArray, List.set_cons_zero, List.set_cons_succ]
          refine wpAnyH_take (i := 4) (v := ?_) rfl (by kernel_rfl) (by kernel_rfl) (by kernel_rfl) (fun _ _ _ h => h) (Or.inl ⟨by rfl, ?_⟩) hHeld ?_
          rotate_left
          · intro u hSu
            (go_simp) <;> (with_reducible rfl)
          change wpAnyH _ _ _ _ _ _ _ (Act.put _ (some 23) _) _
          simp only [Act.put, List.setIfInBounds_toArray, List.set_cons_zero, List.set_cons_succ]
          refine wpAnyH_take (i := 5) (v := ?_) rfl (by kernel_rfl) (by kernel_rfl) (by kernel_rfl) (fun _ _ _ h => h) (Or.inl ⟨by rfl, ?_⟩) hHeld ?_
          rotate_left
          · intro u hSu
            (go_simp) <;> (with_reducible rfl)
          change wpAnyH _ _ _ _ _ _ _ (Act.put _ (some 24) _) _
          simp only [Act.put, List.setIfInBounds_toArray, List.set_cons_zero, List.set_cons_succ]
          refine wpAnyH_take (i := 6) (v := ?_) rfl (by kernel_rfl) (by kernel_rfl) (by kernel_rfl) (fun _ _ _ h => h) (Or.inl ⟨by rfl, ?_⟩) hHeld ?_
          rotate_left
          · intro u hSu
            (go_simp) <;> (with_reducible rfl)
          change wpAnyH _ _ _ _ _ _ _ (Act.put _ (some 25) _) _
          simp only [Act.put, List.setIfInBounds_toArray, List.set_cons_zero, List.set_cons_succ]
          refine wpAnyH_take (i := 7) (v := ?_) rfl (by kernel_rfl) (by kernel_rfl) (by kernel_rfl) (fun _ _ _ h => h) (Or.inl ⟨by rfl, ?_⟩) hHeld ?_
          rotate_left
          · intro u hSu
            have q0 := HC0.out u hSu
            (go_simp) <;> (with_reducible rfl)
          change wpAnyH _ _ _ _ _ _ _ (Act.put _ (some 26) _) _
          simp only [Act.put, List.setIfInBounds_toArray, List.set_cons_zero, List.set_cons_succ]
          refine wpAnyH_take (i := 8) (v := ?_) rfl (by kernel_rfl) (by kernel_rfl) (by kernel_rfl) (fun _ _ _ h => h) (Or.inl ⟨by rfl, ?_⟩) hHeld ?_
          rotate_left
          · intro u hSu
            (go_simp) <;> (with_reducible rfl)
          change wpAnyH _ _ _ _ _ _ _ (Act.put _ (some 27) _) _
          simp only [Act.put, List.setIfInBounds_toArray, List.set_cons_zero, List.set_cons_succ]
          refine wpAnyH_take (i := 9) (v := ?_) rfl (by kernel_rfl) (by kernel_rfl) (by kernel_rfl) (fun _ _ _ h => h) (Or.inl ⟨by rfl, ?_⟩) hHeld ?_
          rotate_left
          · intro u hSu
            (go_simp) <;> (with_reducible rfl)
          change wpAnyH _ _ _ _ _ _ _ (Act.put _ (some 28) _) _
          simp only [Act.put, List.setIfInBounds_toArray, List.set_cons_zero, List.set_cons_succ]
          refine wpAnyH_take (i := 10) (v := ?_) rfl (by kernel_rfl) (by kernel_rfl) (by kernel_rfl) (fun _ _ _ h => h) (Or.inl ⟨by rfl, ?_⟩) hHeld ?_
          rotate_left
          · intro u hSu
            (go_simp) <;> (with_reducible rfl)
          change wpAnyH _ _ _ _ _ _ _ (Act.put _ (some 29) _) _
          simp only [Act.put, List.setIfInBounds_toArray, List.set_cons_zero, List.set_cons_succ]
          refine wpAnyH_take (i := 11) (v := ?_) rfl (by kernel_rfl) (by kernel_rfl) (by kernel_rfl) (fun _ _ _ h => h) (Or.inl ⟨by rfl, ?_⟩) hHeld ?_
          rotate_left
          · intro u hSu
            obtain ⟨y1, y2⟩ := FZ.out u hSu
            (go_simp) <;> (with_reducible rfl)
          change wpAnyH _ _ _ _ _ _ _ (Act.put _ (some 30) _) _
          simp only [Act.put, List.setIfInBounds_toArray, List.set_cons_zero, List.set_cons_succ]
          refine wpAnyH_take (i := 12) (v := ?_) rfl (by kernel_rfl) (by kernel_rfl) (by kernel_rfl) (fun _ _ _ h => h) (Or.inl ⟨by rfl, ?_⟩) hHeld ?_
          rotate_left
          · intro u hSu
            (go_simp) <;> (with_reducible rfl)
          change wpAnyH _ _ _ _ _ _ _ (Act.put _ (some 31) _) _
          simp only [Act.put, List.setIfInBounds_toArray, List.set_cons_zero, List.set_cons_succ]
          refine wpAnyH_take (i := 13) (v := ?_) rfl (by kernel_rfl) (by kernel_rfl) (by kernel_rfl) (fun _ _ _ h => h) (Or.inl ⟨by rfl, ?_⟩) hHeld ?_
          rotate_left
          · intro u hSu
            obtain ⟨y1, y2⟩ := FT.out u hSu
            (go_simp) <;> (with_reducible rfl)
          change wpAnyH _ _ _ _ _ _ _ (Act.put _ (some 32) _) _
          simp only [Act.put, List.setIfInBounds_toArray, List.set_cons_zero, List.set_cons_succ]
          refine wpAnyH_ready (rs := [14]) (by kernel_rfl) (by simp) ?_
          refine AllReadyH.cons rfl (fun K hK => ?_) AllReadyH.nil
          go_simp
          go_at_call 39
          refine (CC1.out _).mono ?_
          rintro e x1 ⟨rfl, hbx1⟩
          have B1 : Hid (Below wr.heap.size wr x1) := hHeld.trans (hbx1.mono hHeld.size)
          clear hbx1
          refine hK.out _ _ ?_ (fun hHeld2 => ?_)
          · exact B1.out
          clear hK K hHeld
          have hHeld := hHeld2
          clear hHeld2
          refine wpAnyH_take (i := 15) (v := ?_) rfl (by kernel_rfl) (by kernel_rfl) (by kernel_rfl) (fun _ _ _ h => h) (Or.inl ⟨by rfl, ?_⟩) hHeld ?_
          rotate_left
          · intro u hSu
            (go_simp) <;> (with_reducible rfl)
          change wpAnyH _ _ _ _ _ _ _ (Act.put _ (some 34) _) _
          simp only [Act.put, List.setIfInBounds_toArray, List.set_cons_zero, List.set_cons_succ]
          refine wpAnyH_take (i := 16) (v := ?_) rfl (by kernel_rfl) (by kernel_rfl) (by kernel_rfl) (fun _ _ _ h => h) (Or.inl ⟨by rfl, ?_⟩) hHeld ?_
          rotate_left
          · intro u hSu
            (go_simp) <;> (with_reducible rfl)
          change wpAnyH _ _ _ _ _ _ _ (Act.put _ (some 35) _) _
          simp only [Act.put, List.setIfInBounds_toArray, List.set_cons_zero, List.set_cons_succ]
          refine wpAnyH_done (by kernel_rfl) ?_ _
          refine NoPanic.normal ?_
          go_wp2
          go_roundw
          case rel =>
            refine ⟨r + 1, by rw [HJ.out]; push_cast; rfl, by omega, HBwr.out.trans (B1.out.mono HBwr.out.size), fun j X hj hX => ?_⟩
            by_cases h4 : j < r
            · exact HX.out j X h4 hX
            · have e : i + j = J := by have := HJ.out; omega
              rw [e, HV1.out] at hX
              injection hX with hX
              rw [← hX, ← HT1.out.1, ← HT1.out.2, ← HC1.out]
              exact hless
          case measure => have := HJ.out; have := HEE.out; simp [intOf]; omega
        · have bc : decide (c1 < 0) = false := decide_eq_false hless
          have HR : Hid (putR L V = r) := putR_is (by rw [HM.out]; exact hr) (by rw [HI.out, ← HTN.out.1, ← HTN.out.2]; exact HX.out) (.inr ⟨V1, by rw [HI.out, ← HJ.out]; exact HV1.out, by rw [HM.out]; exact hlt, by rw [← HTN.out.1, ← HTN.out.2, ← HT1.out.1, ← HT1.out.2, ← HC1.out]; exact hless⟩)
          have HCQ : Hid (clashV L V = decide (t1 = t ∧ n1 = n)) := by show _ = _; rw [HT1.out.1, HT1.out.2, HTN.out.1, HTN.out.2]; exact clash_some (by rw [HR.out, HM.out]; exact hlt) (by rw [HR.out, HI.out, ← HJ.out]; exact HV1.out)
          go_wp2
          refine wp_region_noPanic ?_
          refine wp_region_held_drew (S := fun u => Below wr.heap.size wr u) (by kernel_rfl) ?_ (fun hHeld => ?_)
          · exact (Below.refl _ _).drew
          refine wpAnyH_take (i := 0) (v := ?_) rfl (by kernel_rfl) (by kernel_rfl) (by kernel_rfl) (fun _ _ _ h => h) (Or.inl ⟨by rfl, ?_⟩) hHeld ?_
          rotate_left
          · intro u hSu
            (go_simp) <;> (with_reducible rfl)
          change wpAnyH _ _ _ _ _ _ _ (Act.put _ (some 19) _) _
          simp only [Act.put, List.setIfInBounds_toArray, List.set_cons_zero, List.set_cons_succ]
          refine wpAnyH_take (i := 1) (v := ?_) rfl (by kernel_rfl) (by kernel_rfl) (by kernel_rfl) (fun _ _ _ h => h) (Or.inl ⟨by rfl, ?_⟩) hHeld ?_
          rotate_left
          · intro u hSu
            (go_simp) <;> (with_reducible rfl)
          change wpAnyH _ _ _ _ _ _ _ (Act.put _ (some 20) _) _
          simp only [Act.put, List.setIfInBounds_toArray, List.set_cons_zero, List.set_cons_succ]
          refine wpAnyH_take (i := 2) (v := ?_) rfl (by kernel_rfl) (by kernel_rfl) (by kernel_rfl) (fun _ _ _ h => h) (Or.inl ⟨by rfl, ?_⟩) hHeld ?_
          rotate_left
          · intro u hSu
            (go_simp) <;> (with_reducible rfl)
          change wpAnyH _ _ _ _ _ _ _ (Act.put _ (some 21) _) _
          simp only [Act.put, List.setIfInBounds_toArray, List.set_cons_zero, List.set_cons_succ]
          refine wpAnyH_take (i := 3) (v := ?_) rfl (by kernel_rfl) (by kernel_rfl) (by kernel_rfl) (fun _ _ _ h => h) (Or.inl ⟨by rfl, ?_⟩) hHeld ?_
          rotate_left
          · intro u hSu
            (go_simp) <;> (with_reducible rfl)
          change wpAnyH _ _ _ _ _ _ _ (Act.put _ (some 22) _) _
          simp only [Act.put, List.setIfInBounds_toArray, List.set_cons_zero, List.set_cons_succ]
          refine wpAnyH_take (i := 4) (v := ?_) rfl (by kernel_rfl) (by kernel_rfl) (by kernel_rfl) (fun _ _ _ h => h) (Or.inl ⟨by rfl, ?_⟩) hHeld ?_
          rotate_left
          · intro u hSu
            (go_simp) <;> (with_reducible rfl)
          change wpAnyH _ _ _ _ _ _ _ (Act.put _ (some 23) _) _
          simp only [Act.put, List.setIfInBounds_toArray, List.set_cons_zero, List.set_cons_succ]
          refine wpAnyH_take (i := 5) (v := ?_) rfl (by kernel_rfl) (by kernel_rfl) (by kernel_rfl) (fun _ _ _ h => h) (Or.inl ⟨by rfl, ?_⟩) hHeld ?_
          rotate_left
          · intro u hSu
            (go_simp) <;> (with_reducible rfl)
          change wpAnyH _ _ _ _ _ _ _ (Act.put _ (some 24) _) _
          simp only [Act.put, List.setIfInBounds_toArray, List.set_cons_zero, List.set_cons_succ]
          refine wpAnyH_take (i := 6) (v := ?_) rfl (by kernel_rfl) (by kernel_rfl) (by kernel_rfl) (fun _ _ _ h => h) (Or.inl ⟨by rfl, ?_⟩) hHeld ?_
          rotate_left
          · intro u hSu
            (go_simp) <;> (with_reducible rfl)
          change wpAnyH _ _ _ _ _ _ _ (Act.put _ (some 25) _) _
          simp only [Act.put, List.setIfInBounds_toArray, List.set_cons_zero, List.set_cons_succ]
          refine wpAnyH_take (i := 7) (v := ?_) rfl (by kernel_rfl) (by kernel_rfl) (by kernel_rfl) (fun _ _ _ h => h) (Or.inl ⟨by rfl, ?_⟩) hHeld ?_
          rotate_left
          · intro u hSu
            have q0 := HC0.out u hSu
            (go_simp) <;> (with_reducible rfl)
          change wpAnyH _ _ _ _ _ _ _ (Act.put _ (some 26) _) _
          simp only [Act.put, List.setIfInBounds_toArray, List.set_cons_zero, List.set_cons_succ]
          refine wpAnyH_take (i := 8) (v := ?_) rfl (by kernel_rfl) (by kernel_rfl) (by kernel_rfl) (fun _ _ _ h => h) (Or.inl ⟨by rfl, ?_⟩) hHeld ?_
          rotate_left
          · intro u hSu
            (go_simp) <;> (with_reducible rfl)
          change wpAnyH _ _ _ _ _ _ _ (Act.put _ (some 27) _) _
          simp only [Act.put, List.setIfInBounds_toArray, List.set_cons_zero, List.set_cons_succ]
          refine wpAnyH_take (i := 9) (v := ?_) rfl (by kernel_rfl) (by kernel_rfl) (by kernel_rfl) (fun _ _ _ h => h) (Or.inl ⟨by rfl, ?_⟩) hHeld ?_
          rotate_left
          · intro u hSu
            (go_simp) <;> (with_reducible rfl)
          change wpAnyH _ _ _ _ _ _ _ (Act.put _ (some 28) _) _
          simp only [Act.put, List.setIfInBounds_toArray, List.set_cons_zero, List.set_cons_succ]
          refine wpAnyH_take (i := 10) (v := ?_) rfl (by kernel_rfl) (by kernel_rfl) (by kernel_rfl) (fun _ _ _ h => h) (Or.inl ⟨by rfl, ?_⟩) hHeld ?_
          rotate_left
          · intro u hSu
            (go_simp) <;> (with_reducible rfl)
          change wpAnyH _ _ _ _ _ _ _ (Act.put _ (some 29) _) _
          simp only [Act.put, List.setIfInBounds_toArray, List.set_cons_zero, List.set_cons_succ]
          refine wpAnyH_take (i := 11) (v := ?_) rfl (by kernel_rfl) (by kernel_rfl) (by kernel_rfl) (fun _ _ _ h => h) (Or.inl ⟨by rfl, ?_⟩) hHeld ?_
          rotate_left
          · intro u hSu
            obtain ⟨y1, y2⟩ := FZ.out u hSu
            (go_simp) <;> (with_reducible rfl)
          change wpAnyH _ _ _ _ _ _ _ (Act.put _ (some 30) _) _
          simp only [Act.put, List.setIfInBounds_toArray, List.set_cons_zero, List.set_cons_succ]
          refine wpAnyH_take (i := 12) (v := ?_) rfl (by kernel_rfl) (by kernel_rfl) (by kernel_rfl) (fun _ _ _ h => h) (Or.inl ⟨by rfl, ?_⟩) hHeld ?_
          rotate_left
          · intro u hSu
            (go_simp) <;> (with_reducible rfl)
          change wpAnyH _ _ _ _ _ _ _ (Act.put _ (some 31) _) _
          simp only [Act.put, List.setIfInBounds_toArray, List.set_cons_zero, List.set_cons_succ]
          refine wpAnyH_take (i := 13) (v := ?_) rfl (by kernel_rfl) (by kernel_rfl) (by kernel_rfl) (fun _ _ _ h => h) (Or.inl ⟨by rfl, ?_⟩) hHeld ?_
          rotate_left
          · intro u hSu
            obtain ⟨y1, y2⟩ := FT.out u hSu
            (go_simp) <;> (with_reducible rfl)
          change wpAnyH _ _ _ _ _ _ _ (Act.put _ (some 32) _) _
          simp only [Act.put, List.setIfInBounds_toArray, List.set_cons_zero, List.set_cons_succ]
          refine wpAnyH_ready (rs := [14]) (by kernel_rfl) (by simp) ?_
          refine AllReadyH.cons rfl (fun K hK => ?_) AllReadyH.nil
          go_simp
          go_at_call 39
          refine (CC1.out _).mono ?_
          rintro e x1 ⟨rfl, hbx1⟩
          have B1 : Hid (Below wr.heap.size wr x1) := hHeld.trans (hbx1.mono hHeld.size)
          clear hbx1
          refine hK.out _ _ ?_ (fun hHeld2 => ?_)
          · exact B1.out
          clear hK K hHeld
          have hHeld := hHeld2
          clear hHeld2
          refine wpAnyH_take (i := 15) (v := ?_) rfl (by kernel_rfl) (by kernel_rfl) (by kernel_rfl) (fun _ _ _ h => h) (Or.inl ⟨by rfl, ?_⟩) hHeld ?_
          rotate_left
          · intro u hSu
            (go_simp) <;> (with_reducible rfl)
          change wpAnyH _ _ _ _ _ _ _ (Act.put _ (some 34) _) _
          simp only [Act.put, List.setIfInBounds_toArray, List.set_cons_zero, List.set_cons_succ]
          refine wpAnyH_take (i := 16) (v := ?_) rfl (by kernel_rfl) (by kernel_rfl) (by kernel_rfl) (fun _ _ _ h => h) (Or.inl ⟨by rfl, ?_⟩) hHeld ?_
          rotate_left
          · intro u hSu
            (go_simp) <;> (with_reducible rfl)
          change wpAnyH _ _ _ _ _ _ _ (Act.put _ (some 35) _) _
          simp only [Act.put, List.setIfInBounds_toArray, List.set_cons_zero, List.set_cons_succ]
          refine wpAnyH_done (by kernel_rfl) ?_ _
          refine NoPanic.normal ?_
          obtain ⟨Y, rfl⟩ : ∃ Y : World, Y = x1 := ⟨x1, rfl⟩
          have HBY : Hid (Below V0.heap.size V0 Y) := HBwr.out.trans (B1.out.mono HBwr.out.size)
          clear B1 HBwr BWwr HX CC1
          by_cases heq : t1 = t ∧ n1 = n
          · have hq : ∀ u, (Op.equalIn 10000 28 (.agg #[.int .i64 t1, .int .u8 n1]) (.agg #[.int .i64 t, .int .u8 n])).run Tryz.prog u = .ok true u := fun u => by rw [eq_st, decide_eq_true heq]
            have HE : Hid (PV = (5, L)) := by show PV = _; rw [HPV2.out, if_pos (by rw [HCQ.out]; exact decide_eq_true heq)]
            clear heq FT FZ HC0
            have BWY : Hid (Below w.heap.size w Y) := HBW.out.trans (HBY.out.mono HBW.out.size)
            have FT : Hid (∀ u, Below Y.heap.size Y u → u.cell? ⟨w.heap.size, 16, none⟩ = some (.int .i64 t) ∧ u.cell? ⟨w.heap.size, 17, none⟩ = some (.int .u8 n)) := fun u hb => by
              have := (HVM.out.past (HBY.out.trans (hb.mono HBY.out.size))).cells0 HVK.out
              rw [HTN.out.1, HTN.out.2]
              exact ⟨this.1, this.2.1⟩
            have HC0 : Hid (∀ u, Below Y.heap.size Y u → u.cell? ⟨p, 0, none⟩ = some (.slice (some ⟨g, 0, none⟩) N c0)) := fun u hb => by rw [← HAG.out]; exact HCE.out u (BWY.out.trans (hb.mono BWY.out.size))
            have FZ : Hid (∀ u, Below Y.heap.size Y u → u.cell? ⟨g, J * 20 + 16, none⟩ = some (.int .i64 t1) ∧ u.cell? ⟨g, J * 20 + 17, none⟩ = some (.int .u8 n1)) := fun u hb => by
              have := (HG.out u (BWY.out.trans (hb.mono BWY.out.size)) _ _ HV1.out).cells (HOK.out V1 (List.mem_of_getElem? HV1.out)).key
              rw [HT1.out.1, HT1.out.2]
              exact ⟨this.1, this.2.1⟩
            go_wp2
            refine wp_region_noPanic ?_
            refine wp_region_held_drew (S := fun u => Below Y.heap.size Y u) (by kernel_rfl) ?_ (fun hHeld => ?_)
            · exact (Below.refl _ _).drew
            refine wpAnyH_take (i := 0) (v := ?_) rfl (by kernel_rfl) (by kernel_rfl) (by kernel_rfl) (fun _ _ _ h => h) (Or.inl ⟨by rfl, ?_⟩) hHeld ?_
            rotate_left
            · intro u hSu
              (go_simp) <;> (with_reducible rfl)
            change wpAnyH _ _ _ _ _ _ _ (Act.put _ (some 38) _) _
            simp only [Act.put, List.setIfInBounds_toArray, List.set_cons_zero, List.set_cons_succ]
            refine wpAnyH_take (i := 1) (v := ?_) rfl (by kernel_rfl) (by kernel_rfl) (by kernel_rfl) (fun _ _ _ h => h) (Or.inl ⟨by rfl, ?_⟩) hHeld ?_
            rotate_left
            · intro u hSu
              (go_simp) <;> (with_reducible rfl)
            change wpAnyH _ _ _ _ _ _ _ (Act.put _ (some 39) _) _
            simp only [Act.put, List.setIfInBounds_toArray, List.set_cons_zero, List.set_cons_succ]
            refine wpAnyH_take (i := 2) (v := ?_) rfl (by kernel_rfl) (by kernel_rfl) (by kernel_rfl) (fun _ _ _ h => h) (Or.inl ⟨by rfl, ?_⟩) hHeld ?_
            rotate_left
            · intro u hSu
              (go_simp) <;> (with_reducible rfl)
            change wpAnyH _ _ _ _ _ _ _ (Act.put _ (some 40) _) _
            simp only [Act.put, List.setIfInBounds_toArray, List.set_cons_zero, List.set_cons_succ]
            refine wpAnyH_take (i := 3) (v := ?_) rfl (by kernel_rfl) (by kernel_rfl) (by kernel_rfl) (fun _ _ _ h => h) (Or.inl ⟨by rfl, ?_⟩) hHeld ?_
            rotate_left
            · intro u hSu
              (go_simp) <;> (with_reducible rfl)
            change wpAnyH _ _ _ _ _ _ _ (Act.put _ (some 41) _) _
            simp only [Act.put, List.setIfInBounds_toArray, List.set_cons_zero, List.set_cons_succ]
            refine wpAnyH_take (i := 4) (v := ?_) rfl (by kernel_rfl) (by kernel_rfl) (by kernel_rfl) (fun _ _ _ h => h) (Or.inl ⟨by rfl, ?_⟩) hHeld ?_
            rotate_left
            · intro u hSu
              (go_simp) <;> (with_reducible rfl)
            change wpAnyH _ _ _ _ _ _ _ (Act.put _ (some 42) _) _
            simp only [Act.put, List.setIfInBounds_toArray, List.set_cons_zero, List.set_cons_succ]
            refine wpAnyH_take (i := 5) (v := ?_) rfl (by kernel_rfl) (by kernel_rfl) (by kernel_rfl) (fun _ _ _ h => h) (Or.inl ⟨by rfl, ?_⟩) hHeld ?_
            rotate_left
            · intro u hSu
              (go_simp) <;> (with_reducible rfl)
            change wpAnyH _ _ _ _ _ _ _ (Act.put _ (some 43) _) _
            simp only [Act.put, List.setIfInBounds_toArray, List.set_cons_zero, List.set_cons_succ]
            refine wpAnyH_take (i := 6) (v := ?_) rfl (by kernel_rfl) (by kernel_rfl) (by kernel_rfl) (fun _ _ _ h => h) (Or.inl ⟨by rfl, ?_⟩) hHeld ?_
            rotate_left
            · intro u hSu
              (go_simp) <;> (with_reducible rfl)
            change wpAnyH _ _ _ _ _ _ _ (Act.put _ (some 44) _) _
            simp only [Act.put, List.setIfInBounds_toArray, List.set_cons_zero, List.set_cons_succ]
            refine wpAnyH_take (i := 7) (v := ?_) rfl (by kernel_rfl) (by kernel_rfl) (by kernel_rfl) (fun _ _ _ h => h) (Or.inl ⟨by rfl, ?_⟩) hHeld ?_
            rotate_left
            · intro u hSu
              have q0 := HC0.out u hSu
              (go_simp) <;> (with_reducible rfl)
            change wpAnyH _ _ _ _ _ _ _ (Act.put _ (some 45) _) _
            simp only [Act.put, List.setIfInBounds_toArray, List.set_cons_zero, List.set_cons_succ]
            refine wpAnyH_take (i := 8) (v := ?_) rfl (by kernel_rfl) (by kernel_rfl) (by kernel_rfl) (fun _ _ _ h => h) (Or.inl ⟨by rfl, ?_⟩) hHeld ?_
            rotate_left
            · intro u hSu
              (go_simp) <;> (with_reducible rfl)
            change wpAnyH _ _ _ _ _ _ _ (Act.put _ (some 46) _) _
            simp only [Act.put, List.setIfInBounds_toArray, List.set_cons_zero, List.set_cons_succ]
            refine wpAnyH_take (i := 9) (v := ?_) rfl (by kernel_rfl) (by kernel_rfl) (by kernel_rfl) (fun _ _ _ h => h) (Or.inl ⟨by rfl, ?_⟩) hHeld ?_
            rotate_left
            · intro u hSu
              (go_simp) <;> (with_reducible rfl)
            change wpAnyH _ _ _ _ _ _ _ (Act.put _ (some 47) _) _
            simp only [Act.put, List.setIfInBounds_toArray, List.set_cons_zero, List.set_cons_succ]
            refine wpAnyH_take (i := 10) (v := ?_) rfl (by kernel_rfl) (by kernel_rfl) (by kernel_rfl) (fun _ _ _ h => h) (Or.inl ⟨by rfl, ?_⟩) hHeld ?_
            rotate_left
            · intro u hSu
              (go_simp) <;> (with_reducible rfl)
            change wpAnyH _ _ _ _ _ _ _ (Act.put _ (some 48) _) _
            simp only [Act.put, List.setIfInBounds_toArray, List.set_cons_zero, List.set_cons_succ]
            refine wpAnyH_take (i := 11) (v := ?_) rfl (by kernel_rfl) (by kernel_rfl) (by kernel_rfl) (fun _ _ _ h => h) (Or.inl ⟨by rfl, ?_⟩) hHeld ?_
            rotate_left
            · intro u hSu
              obtain ⟨y1, y2⟩ := FZ.out u hSu
              (go_simp) <;> (with_reducible rfl)
            change wpAnyH _ _ _ _ _ _ _ (Act.put _ (some 49) _) _
            simp only [Act.put, List.setIfInBounds_toArray, List.set_cons_zero, List.set_cons_succ]
            refine wpAnyH_take (i := 12) (v := ?_) rfl (by kernel_rfl) (by kernel_rfl) (by kernel_rfl) (fun _ _ _ h => h) (Or.inl ⟨by rfl, ?_⟩) hHeld ?_
            rotate_left
            · intro u hSu
              (go_simp) <;> (with_reducible rfl)
            change wpAnyH _ _ _ _ _ _ _ (Act.put _ (some 50) _) _
            simp only [Act.put, List.setIfInBounds_toArray, List.set_cons_zero, List.set_cons_succ]
            refine wpAnyH_take (i := 13) (v := ?_) rfl (by kernel_rfl) (by kernel_rfl) (by kernel_rfl) (fun _ _ _ h => h) (Or.inl ⟨by rfl, ?_⟩) hHeld ?_
            rotate_left
            · intro u hSu
              obtain ⟨y1, y2⟩ := FT.out u hSu
              (go_simp) <;> (with_reducible rfl)
            change wpAnyH _ _ _ _ _ _ _ (Act.put _ (some 51) _) _
            simp only [Act.put, List.setIfInBounds_toArray, List.set_cons_zero, List.set_cons_succ]
            refine wpAnyH_take (i := 14) (v := ?_) rfl (by kernel_rfl) (by kernel_rfl) (by kernel_rfl) (fun _ _ _ h => h) (Or.inl ⟨by rfl, ?_⟩) hHeld ?_
            rotate_left
            · intro u hSu
              (go_simp) <;> (with_reducible rfl)
            change wpAnyH _ _ _ _ _ _ _ (Act.put _ (some 52) _) _
            simp only [Act.put, List.setIfInBounds_toArray, List.set_cons_zero, List.set_cons_succ]
            refine wpAnyH_take (i := 15) (v := ?_) rfl (by kernel_rfl) (by kernel_rfl) (by kernel_rfl) (fun _ _ _ h => h) (Or.inl ⟨by rfl, ?_⟩) hHeld ?_
            rotate_left
            · intro u hSu
              (go_simp) <;> (with_reducible rfl)
            change wpAnyH _ _ _ _ _ _ _ (Act.put _ (some 53) _) _
            simp only [Act.put, List.setIfInBounds_toArray, List.set_cons_zero, List.set_cons_succ]
            refine wpAnyH_done (by kernel_rfl) ?_ _
            refine NoPanic.normal ?_
            go_wp2
            go_ret
            rw [HE.out]
            exact ⟨rfl, HST.out.past (BWY.out.drew), Chg.of_below (BWY.out.drew) _⟩
          · have hq : ∀ u, (Op.equalIn 10000 28 (.agg #[.int .i64 t1, .int .u8 n1]) (.agg #[.int .i64 t, .int .u8 n])).run Tryz.prog u = .ok false u := fun u => by rw [eq_st, decide_eq_false heq]
            have HCL : Hid (clashV L V = false) := by show _ = _; rw [HCQ.out]; exact decide_eq_false heq
            clear heq HCQ
            clear FT
            clear FZ HC0
            have BWY : Hid (Below w.heap.size w Y) := HBW.out.trans (HBY.out.mono HBW.out.size)
            have FT : Hid (∀ u, Below Y.heap.size Y u → u.cell? ⟨w.heap.size, 16, none⟩ = some (.int .i64 t) ∧ u.cell? ⟨w.heap.size, 17, none⟩ = some (.int .u8 n)) := fun u hb => by
              have := (HVM.out.past (HBY.out.trans (hb.mono HBY.out.size))).cells0 HVK.out
              rw [HTN.out.1, HTN.out.2]
              exact ⟨this.1, this.2.1⟩
            have HC0 : Hid (∀ u, Below Y.heap.size Y u → u.cell? ⟨p, 0, none⟩ = some (.slice (some ⟨g, 0, none⟩) N c0)) := fun u hb => by rw [← HAG.out]; exact HCE.out u (BWY.out.trans (hb.mono BWY.out.size))
            have FZ : Hid (∀ u, Below Y.heap.size Y u → u.cell? ⟨g, J * 20 + 16, none⟩ = some (.int .i64 t1) ∧ u.cell? ⟨g, J * 20 + 17, none⟩ = some (.int .u8 n1)) := fun u hb => by
              have := (HG.out u (BWY.out.trans (hb.mono BWY.out.size)) _ _ HV1.out).cells (HOK.out V1 (List.mem_of_getElem? HV1.out)).key
              rw [HT1.out.1, HT1.out.2]
              exact ⟨this.1, this.2.1⟩
            go_wp2
            refine wp_region_noPanic ?_
            refine wp_region_held_drew (S := fun u => Below Y.heap.size Y u) (by kernel_rfl) ?_ (fun hHeld => ?_)
            · exact (Below.refl _ _).drew
            refine wpAnyH_take (i := 0) (v := ?_) rfl (by kernel_rfl) (by kernel_rfl) (by kernel_rfl) (fun _ _ _ h => h) (Or.inl ⟨by rfl, ?_⟩) hHeld ?_
            rotate_left
            · intro u hSu
              (go_simp) <;> (with_reducible rfl)
            change wpAnyH _ _ _ _ _ _ _ (Act.put _ (some 38) _) _
            simp only [Act.put, List.setIfInBounds_toArray, List.set_cons_zero, List.set_cons_succ]
            refine wpAnyH_take (i := 1) (v := ?_) rfl (by kernel_rfl) (by kernel_rfl) (by kernel_rfl) (fun _ _ _ h => h) (Or.inl ⟨by rfl, ?_⟩) hHeld ?_
            rotate_left
            · intro u hSu
              (go_simp) <;> (with_reducible rfl)
            change wpAnyH _ _ _ _ _ _ _ (Act.put _ (some 39) _) _
            simp only [Act.put, List.setIfInBounds_toArray, List.set_cons_zero, List.set_cons_succ]
            refine wpAnyH_take (i := 2) (v := ?_) rfl (by kernel_rfl) (by kernel_rfl) (by kernel_rfl) (fun _ _ _ h => h) (Or.inl ⟨by rfl, ?_⟩) hHeld ?_
            rotate_left
            · intro u hSu
              (go_simp) <;> (with_reducible rfl)
            change wpAnyH _ _ _ _ _ _ _ (Act.put _ (some 40) _) _
            simp only [Act.put, List.setIfInBounds_toArray, List.set_cons_zero, List.set_cons_succ]
            refine wpAnyH_take (i := 3) (v := ?_) rfl (by kernel_rfl) (by kernel_rfl) (by kernel_rfl) (fun _ _ _ h => h) (Or.inl ⟨by rfl, ?_⟩) hHeld ?_
            rotate_left
            · intro u hSu
              (go_simp) <;> (with_reducible rfl)
            change wpAnyH _ _ _ _ _ _ _ (Act.put _ (some 41) _) _
            simp only [Act.put, List.setIfInBounds_toArray, List.set_cons_zero, List.set_cons_succ]
            refine wpAnyH_take (i := 4) (v := ?_) rfl (by kernel_rfl) (by kernel_rfl) (by kernel_rfl) (fun _ _ _ h => h) (Or.inl ⟨by rfl, ?_⟩) hHeld ?_
            rotate_left
            · intro u hSu
              (go_simp) <;> (with_reducible rfl)
            change wpAnyH _ _ _ _ _ _ _ (Act.put _ (some 42) _) _
            simp only [Act.put, List.setIfInBounds_toArray, List.set_cons_zero, List.set_cons_succ]
            refine wpAnyH_take (i := 5) (v := ?_) rfl (by kernel_rfl) (by kernel_rfl) (by kernel_rfl) (fun _ _ _ h => h) (Or.inl ⟨by rfl, ?_⟩) hHeld ?_
            rotate_left
            · intro u hSu
              (go_simp) <;> (with_reducible rfl)
            change wpAnyH _ _ _ _ _ _ _ (Act.put _ (some 43) _) _
            simp only [Act.put, List.setIfInBounds_toArray, List.set_cons_zero, List.set_cons_succ]
            refine wpAnyH_take (i := 6) (v := ?_) rfl (by kernel_rfl) (by kernel_rfl) (by kernel_rfl) (fun _ _ _ h => h) (Or.inl ⟨by rfl, ?_⟩) hHeld ?_
            rotate_left
            · intro u hSu
              (go_simp) <;> (with_reducible rfl)
            change wpAnyH _ _ _ _ _ _ _ (Act.put _ (some 44) _) _
            simp only [Act.put, List.setIfInBounds_toArray, List.set_cons_zero, List.set_cons_succ]
            refine wpAnyH_take (i := 7) (v := ?_) rfl (by kernel_rfl) (by kernel_rfl) (by kernel_rfl) (fun _ _ _ h => h) (Or.inl ⟨by rfl, ?_⟩) hHeld ?_
            rotate_left
            · intro u hSu
              have q0 := HC0.out u hSu
              (go_simp) <;> (with_reducible rfl)
            change wpAnyH _ _ _ _ _ _ _ (Act.put _ (some 45) _) _
            simp only [Act.put, List.setIfInBounds_toArray, List.set_cons_zero, List.set_cons_succ]
            refine wpAnyH_take (i := 8) (v := ?_) rfl (by kernel_rfl) (by kernel_rfl) (by kernel_rfl) (fun _ _ _ h => h) (Or.inl ⟨by rfl, ?_⟩) hHeld ?_
            rotate_left
            · intro u hSu
              (go_simp) <;> (with_reducible rfl)
            change wpAnyH _ _ _ _ _ _ _ (Act.put _ (some 46) _) _
            simp only [Act.put, List.setIfInBounds_toArray, List.set_cons_zero, List.set_cons_succ]
            refine wpAnyH_take (i := 9) (v := ?_) rfl (by kernel_rfl) (by kernel_rfl) (by kernel_rfl) (fun _ _ _ h => h) (Or.inl ⟨by rfl, ?_⟩) hHeld ?_
            rotate_left
            · intro u hSu
              (go_simp) <;> (with_reducible rfl)
            change wpAnyH _ _ _ _ _ _ _ (Act.put _ (some 47) _) _
            simp only [Act.put, List.setIfInBounds_toArray, List.set_cons_zero, List.set_cons_succ]
            refine wpAnyH_take (i := 10) (v := ?_) rfl (by kernel_rfl) (by kernel_rfl) (by kernel_rfl) (fun _ _ _ h => h) (Or.inl ⟨by rfl, ?_⟩) hHeld ?_
            rotate_left
            · intro u hSu
              (go_simp) <;> (with_reducible rfl)
            change wpAnyH _ _ _ _ _ _ _ (Act.put _ (some 48) _) _
            simp only [Act.put, List.setIfInBounds_toArray, List.set_cons_zero, List.set_cons_succ]
            refine wpAnyH_take (i := 11) (v := ?_) rfl (by kernel_rfl) (by kernel_rfl) (by kernel_rfl) (fun _ _ _ h => h) (Or.inl ⟨by rfl, ?_⟩) hHeld ?_
            rotate_left
            · intro u hSu
              obtain ⟨y1, y2⟩ := FZ.out u hSu
              (go_simp) <;> (with_reducible rfl)
            change wpAnyH _ _ _ _ _ _ _ (Act.put _ (some 49) _) _
            simp only [Act.put, List.setIfInBounds_toArray, List.set_cons_zero, List.set_cons_succ]
            refine wpAnyH_take (i := 12) (v := ?_) rfl (by kernel_rfl) (by kernel_rfl) (by kernel_rfl) (fun _ _ _ h => h) (Or.inl ⟨by rfl, ?_⟩) hHeld ?_
            rotate_left
            · intro u hSu
              (go_simp) <;> (with_reducible rfl)
            change wpAnyH _ _ _ _ _ _ _ (Act.put _ (some 50) _) _
            simp only [Act.put, List.setIfInBounds_toArray, List.set_cons_zero, List.set_cons_succ]
            refine wpAnyH_take (i := 13) (v := ?_) rfl (by kernel_rfl) (by kernel_rfl) (by kernel_rfl) (fun _ _ _ h => h) (Or.inl ⟨by rfl, ?_⟩) hHeld ?_
            rotate_left
            · intro u hSu
              obtain ⟨y1, y2⟩ := FT.out u hSu
              (go_simp) <;> (with_reducible rfl)
            change wpAnyH _ _ _ _ _ _ _ (Act.put _ (some 51) _) _
            simp only [Act.put, List.setIfInBounds_toArray, List.set_cons_zero, List.set_cons_succ]
            refine wpAnyH_take (i := 14) (v := ?_) rfl (by kernel_rfl) (by kernel_rfl) (by kernel_rfl) (fun _ _ _ h => h) (Or.inl ⟨by rfl, ?_⟩) hHeld ?_
            rotate_left
            · intro u hSu
              (go_simp) <;> (with_reducible rfl)
            change wpAnyH _ _ _ _ _ _ _ (Act.put _ (some 52) _) _
            simp only [Act.put, List.setIfInBounds_toArray, List.set_cons_zero, List.set_cons_succ]
            refine wpAnyH_take (i := 15) (v := ?_) rfl (by kernel_rfl) (by kernel_rfl) (by kernel_rfl) (fun _ _ _ h => h) (Or.inl ⟨by rfl, ?_⟩) hHeld ?_
            rotate_left
            · intro u hSu
              (go_simp) <;> (with_reducible rfl)
            change wpAnyH _ _ _ _ _ _ _ (Act.put _ (some 53) _) _
            simp only [Act.put, List.setIfInBounds_toArray, List.set_cons_zero, List.set_cons_succ]
            refine wpAnyH_done (by kernel_rfl) ?_ _
            refine NoPanic.normal ?_
            obtain ⟨U, hU⟩ : ∃ U, U = Y.drew := ⟨_, rfl⟩
            have HBU : Hid (Below V0.heap.size V0 U) := by rw [hU]; exact HBY.out.drew
            rw [← hU]
            clear hU FT FZ HC0
            have HWU : Hid (Below w.heap.size w U) := HBW.out.trans (HBU.out.mono HBW.out.size)
            have hiE : i ≤ E := by have := HEE.out; omega
            have hE1 : E ≤ 1000000 := by have := HEE.out; omega
            have hJ1 : J ≤ N := by have := HJ.out; have := HEE.out; omega
            by_cases h50 : 50 ≤ m
            · have bm : decide ((50 : Int) ≤ (E : Int) - (i : Int)) = true := decide_eq_true (by have := HEE.out; omega)
              have HE : Hid (PV = (6, L)) := by show PV = _; rw [HPV2.out, if_neg (by rw [HCL.out]; simp), if_pos h50]
              go_wp2
              go_ret
              rw [HE.out]
              exact ⟨rfl, HST.out.past HWU.out, Chg.of_below HWU.out _⟩
            · have bm : decide ((50 : Int) ≤ (E : Int) - (i : Int)) = false := decide_eq_false (by have := HEE.out; omega)
              have HE : Hid (PV = (0, L.take J ++ V :: L.drop J)) := by show PV = _; rw [HPV2.out, if_neg (by rw [HCL.out]; simp), if_neg h50, show putAt L V = J from by unfold putAt; rw [HI.out, HR.out, HJ.out]]
              go_wp2
              have HKU : Hid (∀ u, Below U.heap.size U u → u.cell? ⟨p, 0, none⟩ = some (.slice a0 N c0) ∧ u.frozen? ⟨p, 0, none⟩ = false) := fun u hb => by
                have hb' := HWU.out.trans (hb.mono HWU.out.size)
                exact ⟨HCE.out u hb', (hb'.frozen (p := ⟨p, 0, none⟩) HST.out.lt).trans HST.out.free⟩
              have FVV : Hid (∀ u, Below U.heap.size U u → VerAt u w.heap.size 0 V) := fun u hb => HVM.out.past (HBU.out.trans (hb.mono HBU.out.size))
              have hsT : ∀ u, (Instr.slice 109 (.slice a0 N c0) none (some (.int .i64 (J : Int))) none).run Tryz.prog u = .ok (.slice a0 J c0) u := fun u => slice_versT u _ HA.out N c0 J (by omega) (fun e => (hnil e).1) (fun e => (hnil e).2)
              obtain ⟨A2, hA2⟩ : ∃ A2, A2 = dropV a0 c0 J := ⟨_, rfl⟩
              have hsL : ∀ u, (Instr.slice 109 (.slice a0 N c0) (some (.int .i64 (J : Int))) none none).run Tryz.prog u = .ok (.slice A2 (N - J) (c0 - J)) u := fun u => by rw [hA2]; exact slice_versL u _ HA.out N c0 J (by omega) hcap (fun e => (hnil e).1)
              obtain ⟨AA, hAA⟩ : ∃ AA, AA = (L.take J).flatMap encV := ⟨_, rfl⟩
              obtain ⟨BB, hBB⟩ : ∃ BB, BB = (L.drop J).flatMap encV := ⟨_, rfl⟩
              have LA : Hid (AA.length = J * 20) := by show _ = _; rw [hAA, flat_len (enc := encV) (size := 20) _ (fun x hx => HOK.out.len x (List.mem_of_mem_take hx)), List.length_take, HN.out]; omega
              have LB : Hid (BB.length = (N - J) * 20) := by show _ = _; rw [hBB, flat_len (enc := encV) (size := 20) _ (fun x hx => HOK.out.len x (List.mem_of_mem_drop hx)), List.length_drop, HN.out]
              have HLV : Hid ((encV V).length = 1 * 20) := enc_len HVK.out
              have S1 : Hid (∀ u, Below U.heap.size U u → Lies u a0 AA) := fun u hb => by rw [hAA]; exact lies_takeV HA.out (HLI.out u (HWU.out.trans (hb.mono HWU.out.size))) HOK.out
              have S2 : Hid (∀ u, Below U.heap.size U u → Lies u A2 BB) := fun u hb => by rw [hBB, hA2]; exact lies_dropV HA.out (HLI.out u (HWU.out.trans (hb.mono HWU.out.size))) HOK.out (by rw [HN.out]; exact hcap)
              have O1 : Hid (∀ u ∈ AA, u.oneCell' = true) := by rw [hAA]; exact encs_one _
              have O2 : Hid (∀ u ∈ BB, u.oneCell' = true) := by rw [hBB]; exact encs_one _
              have OV : Hid (∀ u ∈ encV V, u.oneCell' = true) := enc_one V
              have N1 : Hid (a0 = none → J = 0 ∧ c0 = 0) := fun e => ⟨by have := (hnil e).2; omega, (hnil e).1⟩
              have N2 : Hid (A2 = none → N - J = 0 ∧ c0 - J = 0) := fun e => by
                have e' : a0 = none := dropV_none (by rw [← hA2]; exact e)
                have h1 := hnil e'; omega
              have HEND : Hid (∀ (w5 : World) (a5 : Option Addr) (c5 : Nat), OwnB 127 20 U w5 (.slice a5 (J + 1 + (N - J)) c5) (J + 1 + (N - J)) (AA ++ encV V ++ BB) → Ending.returned (.int .i64 0) = .returned (.int .i64 PV.1) ∧ StoreR (w5.setCell ⟨p, 0, none⟩ (.slice a5 (J + 1 + (N - J)) c5)) B p PV.2 ∧ Chg w (w5.setCell ⟨p, 0, none⟩ (.slice a5 (J + 1 + (N - J)) c5)) (fun k => k = p)) := fun w5 a5 c5 ho => by
                have hb5 : Below w.heap.size w w5 := HWU.out.trans (ho.below.mono HWU.out.size)
                have ho' := ho.own
                have he : AA ++ encV V ++ BB = (L.take J ++ V :: L.drop J).flatMap encV := by rw [hAA, hBB]; simp
                rw [he] at ho'
                rw [HE.out]
                exact ⟨rfl, HST.out.turn hb5 (by rw [List.length_append, List.length_cons, List.length_take, List.length_drop, HN.out]; omega) (own_lower10 ho' HWU.out.size) hB (ins_ok HOK.out HVO.out J) (by omega)⟩
              clear hAA hBB hA2
              refine wp_region_noPanic ?_
              refine region_till 21 (fun u => Below U.heap.size U u) (by kernel_rfl) ?_ (fun hHeld => ?_)
              · exact (Below.refl _ _).drew
              refine till_take (i := 0) (v := ?_) 0 (by kernel_rfl) (Or.inl rfl) (by kernel_rfl) rfl (by kernel_rfl) (by kernel_rfl) (by kernel_rfl) (fun _ _ _ h => h) (Or.inl ⟨by rfl, ?_⟩) hHeld ?_
              rotate_left
              · intro u hSu
                (go_simp) <;> (with_reducible rfl)
              change wpTill _ _ _ _ _ _ _ _ (Act.put _ (some 58) _) _
              simp only [Act.put, List.setIfInBounds_toArray, List.set_cons_zero, List.set_cons_succ]
              refine till_take (i := 2) (v := ?_) 2 (by kernel_rfl) (Or.inl rfl) (by kernel_rfl) rfl (by kernel_rfl) (by kernel_rfl) (by kernel_rfl) (fun _ _ _ h => h) (Or.inl ⟨by rfl, ?_⟩) hHeld ?_
              rotate_left
              · intro u hSu
                (go_simp) <;> (with_reducible rfl)
              change wpTill _ _ _ _ _ _ _ _ (Act.put _ (some 60) _) _
              simp only [Act.put, List.setIfInBounds_toArray, List.set_cons_zero, List.set_cons_succ]
              refine till_take (i := 3) (v := ?_) 3 (by kernel_rfl) (Or.inl rfl) (by kernel_rfl) rfl (by kernel_rfl) (by kernel_rfl) (by kernel_rfl) (fun _ _ _ h => h) (Or.inl ⟨by rfl, ?_⟩) hHeld ?_
              rotate_left
              · intro u hSu
                (go_simp) <;> (with_reducible rfl)
              change wpTill _ _ _ _ _ _ _ _ (Act.put _ (some 61) _) _
              simp only [Act.put, List.setIfInBounds_toArray, List.set_cons_zero, List.set_cons_succ]
              refine till_take (i := 4) (v := ?_) 4 (by kernel_rfl) (Or.inl rfl) (by kernel_rfl) rfl (by kernel_rfl) (by kernel_rfl) (by kernel_rfl) (fun _ _ _ h => h) (Or.inl ⟨by rfl, ?_⟩) hHeld ?_
              rotate_left
              · intro u hSu
                (go_simp) <;> (with_reducible rfl)
              change wpTill _ _ _ _ _ _ _ _ (Act.put _ (some 62) _) _
              simp only [Act.put, List.setIfInBounds_toArray, List.set_cons_zero, List.set_cons_succ]
              refine till_take (i := 5) (v := ?_) 5 (by kernel_rfl) (Or.inl rfl) (by kernel_rfl) rfl (by kernel_rfl) (by kernel_rfl) (by kernel_rfl) (fun _ _ _ h => h) (Or.inl ⟨by rfl, ?_⟩) hHeld ?_
              rotate_left
              · intro u hSu
                obtain ⟨q1, q5⟩ := HKU.out u hSu
                (go_simp) <;> (with_reducible rfl)
              change wpTill _ _ _ _ _ _ _ _ (Act.put _ (some 63) _) _
              simp only [Act.put, List.setIfInBounds_toArray, List.set_cons_zero, List.set_cons_succ]
              refine till_take (i := 6) (v := ?_) 6 (by kernel_rfl) (Or.inl rfl) (by kernel_rfl) rfl (by kernel_rfl) (by kernel_rfl) (by kernel_rfl) (fun _ _ _ h => h) (Or.inl ⟨by rfl, ?_⟩) hHeld ?_
              rotate_left
              · intro u hSu
                (go_simp) <;> (with_reducible rfl)
              change wpTill _ _ _ _ _ _ _ _ (Act.put _ (some 64) _) _
              simp only [Act.put, List.setIfInBounds_toArray, List.set_cons_zero, List.set_cons_succ]
              refine till_take (i := 7) (v := ?_) 7 (by kernel_rfl) (Or.inl rfl) (by kernel_rfl) rfl (by kernel_rfl) (by kernel_rfl) (by kernel_rfl) (fun _ _ _ h => h) (Or.inl ⟨by rfl, ?_⟩) hHeld ?_
              rotate_left
              · intro u hSu
                have q := hsT u
                (go_simp) <;> (with_reducible rfl)
              change wpTill _ _ _ _ _ _ _ _ (Act.put _ (some 65) _) _
              simp only [Act.put, List.setIfInBounds_toArray, List.set_cons_zero, List.set_cons_succ]
              refine till_take (i := 9) (v := vv V) 9 (by kernel_rfl) (Or.inl rfl) (by kernel_rfl) rfl (by kernel_rfl) (by kernel_rfl) (by kernel_rfl) (fun _ _ _ h => h) (yieldsIf_load_mid (by rfl) _ _ rfl _ _ rfl (encV V) _ (fun u hu => (FVV.out u hu).range) Tryz.underlying127 rfl (info_verl V HVK.out)) hHeld ?_
              change wpTill _ _ _ _ _ _ _ _ (Act.put _ (some 67) _) _
              simp only [Act.put, List.setIfInBounds_toArray, List.set_cons_zero, List.set_cons_succ]
              refine till_take (i := 12) (v := ?_) 12 (by kernel_rfl) (Or.inl rfl) (by kernel_rfl) rfl (by kernel_rfl) (by kernel_rfl) (by kernel_rfl) (fun _ _ _ h => h) (Or.inl ⟨by rfl, ?_⟩) hHeld ?_
              rotate_left
              · intro u hSu
                (go_simp) <;> (with_reducible rfl)
              change wpTill _ _ _ _ _ _ _ _ (Act.put _ (some 70) _) _
              simp only [Act.put, List.setIfInBounds_toArray, List.set_cons_zero, List.set_cons_succ]
              refine till_take (i := 13) (v := ?_) 13 (by kernel_rfl) (Or.inl rfl) (by kernel_rfl) rfl (by kernel_rfl) (by kernel_rfl) (by kernel_rfl) (fun _ _ _ h => h) (Or.inl ⟨by rfl, ?_⟩) hHeld ?_
              rotate_left
              · intro u hSu
                (go_simp) <;> (with_reducible rfl)
              change wpTill _ _ _ _ _ _ _ _ (Act.put _ (some 71) _) _
              simp only [Act.put, List.setIfInBounds_toArray, List.set_cons_zero, List.set_cons_succ]
              refine till_take (i := 14) (v := ?_) 14 (by kernel_rfl) (Or.inl rfl) (by kernel_rfl) rfl (by kernel_rfl) (by kernel_rfl) (by kernel_rfl) (fun _ _ _ h => h) (Or.inl ⟨by rfl, ?_⟩) hHeld ?_
              rotate_left
              · intro u hSu
                (go_simp) <;> (with_reducible rfl)
              change wpTill _ _ _ _ _ _ _ _ (Act.put _ (some 72) _) _
              simp only [Act.put, List.setIfInBounds_toArray, List.set_cons_zero, List.set_cons_succ]
              refine till_take (i := 15) (v := ?_) 15 (by kernel_rfl) (Or.inl rfl) (by kernel_rfl) rfl (by kernel_rfl) (by kernel_rfl) (by kernel_rfl) (fun _ _ _ h => h) (Or.inl ⟨by rfl, ?_⟩) hHeld ?_
              rotate_left
              · intro u hSu
                obtain ⟨q1, q5⟩ := HKU.out u hSu
                (go_simp) <;> (with_reducible rfl)
              change wpTill _ _ _ _ _ _ _ _ (Act.put _ (some 73) _) _
              simp only [Act.put, List.setIfInBounds_toArray, List.set_cons_zero, List.set_cons_succ]
              refine till_take (i := 16) (v := ?_) 16 (by kernel_rfl) (Or.inl rfl) (by kernel_rfl) rfl (by kernel_rfl) (by kernel_rfl) (by kernel_rfl) (fun _ _ _ h => h) (Or.inl ⟨by rfl, ?_⟩) hHeld ?_
              rotate_left
              · intro u hSu
                (go_simp) <;> (with_reducible rfl)
              change wpTill _ _ _ _ _ _ _ _ (Act.put _ (some 74) _) _
              simp only [Act.put, List.setIfInBounds_toArray, List.set_cons_zero, List.set_cons_succ]
              refine till_take (i := 17) (v := ?_) 17 (by kernel_rfl) (Or.inl rfl) (by kernel_rfl) rfl (by kernel_rfl) (by kernel_rfl) (by kernel_rfl) (fun _ _ _ h => h) (Or.inl ⟨by rfl, ?_⟩) hHeld ?_
              rotate_left
              · intro u hSu
                have q := hsL u
                (go_simp) <;> (with_reducible rfl)
              change wpTill _ _ _ _ _ _ _ _ (Act.put _ (some 75) _) _
              simp only [Act.put, List.setIfInBounds_toArray, List.set_cons_zero, List.set_cons_succ]
              refine till_ready (rs := [1, 10]) (by kernel_rfl) (by simp) ?_
              refine AllTill.cons rfl (fun K hK => ?_) ?_
              · go_simp
                refine hK.out _ _ ?_ (fun hHeld2 => ?_)
                · exact hHeld.alloc hHeld.size _
                clear hK K hHeld
                have hHeld := hHeld2
                clear hHeld2
                refine till_ready (rs := [8, 10]) (by kernel_rfl) (by simp) ?_
                refine AllTill.cons rfl (fun K hK => ?_) ?_
                · refine step_own verEl (w0 := U) rfl (.tmp 59) (.tmp 65) rfl _ 0 [] AA rfl (own_one 127 20 U) _ _ _ rfl LA.out (S1.out _ (own_one 127 20 U).below) O1.out N1.out J (Nat.zero_add _) (by omega) AA (List.nil_append _) ?_
                  intro a3 c3 w3 h1 h2
                  have HO3 : Hid (OwnB 127 20 U w3 (.slice a3 J c3) J AA) := h1
                  clear h1 h2
                  refine hK.out _ _ ?_ (fun hHeld2 => ?_)
                  · exact HO3.out.below
                  clear hK K hHeld
                  have hHeld := hHeld2
                  clear hHeld2
                  change wpTill _ _ _ _ _ _ _ _ (Act.put _ (some 66) _) _
                  simp only [Act.put, List.setIfInBounds_toArray, List.set_cons_zero, List.set_cons_succ]
                  refine till_ready (rs := [10]) (by kernel_rfl) (by simp) ?_
                  refine AllTill.cons rfl (fun K hK => ?_) AllTill.nil
                  refine step_build_ver rfl (.tmp 67) rfl V HVK.out rfl ?_
                  refine hK.out _ _ ?_ (fun hHeld2 => ?_)
                  · exact hHeld.alloc hHeld.size _
                  clear hK K hHeld
                  have hHeld := hHeld2
                  clear hHeld2
                  change wpTill _ _ _ _ _ _ _ _ (Act.put _ (some 68) _) _
                  simp only [Act.put, List.setIfInBounds_toArray, List.set_cons_zero, List.set_cons_succ]
                  refine till_ready (rs := [11]) (by kernel_rfl) (by simp) ?_
                  refine AllTill.cons rfl (fun K hK => ?_) AllTill.nil
                  refine step_own verEl (w0 := U) rfl (.tmp 66) (.tmp 68) rfl _ J AA (encV V) rfl (HO3.out.alloc _) _ _ _ rfl HLV.out (lies_made _ _ _) OV.out (fun h => by cases h) (J + 1) rfl (by omega) (AA ++ encV V) rfl ?_
                  intro a4 c4 w4 h1 h2
                  have HO4 : Hid (OwnB 127 20 U w4 (.slice a4 (J + 1) c4) (J + 1) (AA ++ encV V)) := h1
                  clear h1 h2 HO3
                  refine hK.out _ _ ?_ (fun hHeld2 => ?_)
                  · exact HO4.out.below
                  clear hK K hHeld
                  have hHeld := hHeld2
                  clear hHeld2
                  change wpTill _ _ _ _ _ _ _ _ (Act.put _ (some 69) _) _
                  simp only [Act.put, List.setIfInBounds_toArray, List.set_cons_zero, List.set_cons_succ]
                  refine till_ready (rs := [18]) (by kernel_rfl) (by simp) ?_
                  refine AllTill.cons rfl (fun K hK => ?_) AllTill.nil
                  refine step_own verEl (w0 := U) rfl (.tmp 69) (.tmp 75) rfl _ (J + 1) (AA ++ encV V) BB rfl HO4.out _ _ _ rfl LB.out (S2.out _ HO4.out.below) O2.out N2.out (J + 1 + (N - J)) rfl (by omega) (AA ++ encV V ++ BB) rfl ?_
                  intro a5 c5 w5 h1 h2
                  have HO5 : Hid (OwnB 127 20 U w5 (.slice a5 (J + 1 + (N - J)) c5) (J + 1 + (N - J)) (AA ++ encV V ++ BB)) := h1
                  clear h1 h2 HO4
                  refine hK.out _ _ ?_ (fun hHeld2 => ?_)
                  · exact HO5.out.below
                  clear hK K hHeld
                  have hHeld := hHeld2
                  clear hHeld2
                  change wpTill _ _ _ _ _ _ _ _ (Act.put _ (some 76) _) _
                  simp only [Act.put, List.setIfInBounds_toArray, List.set_cons_zero, List.set_cons_succ]
                  refine till_take (i := 19) (v := ?_) 20 (by kernel_rfl) (Or.inr (by kernel_rfl)) (by kernel_rfl) rfl (by kernel_rfl) (by kernel_rfl) (by kernel_rfl) (fun _ _ _ h => h) (Or.inl ⟨by rfl, ?_⟩) hHeld ?_
                  rotate_left
                  · intro u hSu
                    (go_simp) <;> (with_reducible rfl)
                  change wpTill _ _ _ _ _ _ _ _ (Act.put _ (some 77) _) _
                  simp only [Act.put, List.setIfInBounds_toArray, List.set_cons_zero, List.set_cons_succ]
                  refine till_take (i := 20) (v := ?_) 20 (by kernel_rfl) (Or.inl rfl) (by kernel_rfl) rfl (by kernel_rfl) (by kernel_rfl) (by kernel_rfl) (fun _ _ _ h => h) (Or.inl ⟨by rfl, ?_⟩) hHeld ?_
                  rotate_left
                  · intro u hSu
                    (go_simp) <;> (with_reducible rfl)
                  change wpTill _ _ _ _ _ _ _ _ (Act.put _ (some 78) _) _
                  simp only [Act.put, List.setIfInBounds_toArray, List.set_cons_zero, List.set_cons_succ]
                  refine till_last (by kernel_rfl) (by kernel_rfl) rfl (fun K hK => ?_)
                  obtain ⟨q1, q5⟩ := HKU.out w5 HO5.out.below
                  go_simp
                  refine hK.out _ _ ?_
                  refine NoPanic.normal ?_
                  clear hK K hHeld q1 q5
                  go_wp2
                  go_ret
                  exact HEND.out w5 a5 c5 HO5.out
                refine AllTill.cons rfl (fun K hK => ?_) AllTill.nil
                refine step_build_ver rfl (.tmp 67) rfl V HVK.out rfl ?_
                refine hK.out _ _ ?_ (fun hHeld2 => ?_)
                · exact hHeld.alloc hHeld.size _
                clear hK K hHeld
                have hHeld := hHeld2
                clear hHeld2
                change wpTill _ _ _ _ _ _ _ _ (Act.put _ (some 68) _) _
                simp only [Act.put, List.setIfInBounds_toArray, List.set_cons_zero, List.set_cons_succ]
                refine till_ready (rs := [8]) (by kernel_rfl) (by simp) ?_
                refine AllTill.cons rfl (fun K hK => ?_) AllTill.nil
                refine step_own verEl (w0 := U) rfl (.tmp 59) (.tmp 65) rfl _ 0 [] AA rfl (own_two 127 20 U _) _ _ _ rfl LA.out (S1.out _ (own_two 127 20 U _).below) O1.out N1.out J (Nat.zero_add _) (by omega) AA (List.nil_append _) ?_
                intro a3 c3 w3 h1 h2
                have HO3 : Hid (OwnB 127 20 U w3 (.slice a3 J c3) J AA) := h1
                have HX3 : Hid (Lies w3 (some ⟨(U.alloc (Obj.cells #[] 127)).drew.heap.size, 0, none⟩) (encV V)) := (by rw [show (U.alloc (Obj.cells #[] 127)).drew.heap.size = U.heap.size + 1 from by simp]; exact (made_two U 127 127 #[] _ _ _).step (v' := .slice none 0 0) h2)
                clear h1 h2
                refine hK.out _ _ ?_ (fun hHeld2 => ?_)
                · exact HO3.out.below
                clear hK K hHeld
                have hHeld := hHeld2
                clear hHeld2
                change wpTill _ _ _ _ _ _ _ _ (Act.put _ (some 66) _) _
                simp only [Act.put, List.setIfInBounds_toArray, List.set_cons_zero, List.set_cons_succ]
                refine till_ready (rs := [11]) (by kernel_rfl) (by simp) ?_
                refine AllTill.cons rfl (fun K hK => ?_) AllTill.nil
                refine step_own verEl (w0 := U) rfl (.tmp 66) (.tmp 68) rfl _ J AA (encV V) rfl (HO3.out) _ _ _ rfl HLV.out (HX3.out) OV.out (fun h => by cases h) (J + 1) rfl (by omega) (AA ++ encV V) rfl ?_
                intro a4 c4 w4 h1 h2
                have HO4 : Hid (OwnB 127 20 U w4 (.slice a4 (J + 1) c4) (J + 1) (AA ++ encV V)) := h1
                clear h1 h2 HO3
                refine hK.out _ _ ?_ (fun hHeld2 => ?_)
                · exact HO4.out.below
                clear hK K hHeld
                have hHeld := hHeld2
                clear hHeld2
                change wpTill _ _ _ _ _ _ _ _ (Act.put _ (some 69) _) _
                simp only [Act.put, List.setIfInBounds_toArray, List.set_cons_zero, List.set_cons_succ]
                refine till_ready (rs := [18]) (by kernel_rfl) (by simp) ?_
                refine AllTill.cons rfl (fun K hK => ?_) AllTill.nil
                refine step_own verEl (w0 := U) rfl (.tmp 69) (.tmp 75) rfl _ (J + 1) (AA ++ encV V) BB rfl HO4.out _ _ _ rfl LB.out (S2.out _ HO4.out.below) O2.out N2.out (J + 1 + (N - J)) rfl (by omega) (AA ++ encV V ++ BB) rfl ?_
                intro a5 c5 w5 h1 h2
                have HO5 : Hid (OwnB 127 20 U w5 (.slice a5 (J + 1 + (N - J)) c5) (J + 1 + (N - J)) (AA ++ encV V ++ BB)) := h1
                clear h1 h2 HO4
                refine hK.out _ _ ?_ (fun hHeld2 => ?_)
                · exact HO5.out.below
                clear hK K hHeld
                have hHeld := hHeld2
                clear hHeld2
                change wpTill _ _ _ _ _ _ _ _ (Act.put _ (some 76) _) _
                simp only [Act.put, List.setIfInBounds_toArray, List.set_cons_zero, List.set_cons_succ]
                refine till_take (i := 19) (v := ?_) 20 (by kernel_rfl) (Or.inr (by kernel_rfl)) (by kernel_rfl) rfl (by kernel_rfl) (by kernel_rfl) (by kernel_rfl) (fun _ _ _ h => h) (Or.inl ⟨by rfl, ?_⟩) hHeld ?_
                rotate_left
                · intro u hSu
                  (go_simp) <;> (with_reducible rfl)
                change wpTill _ _ _ _ _ _ _ _ (Act.put _ (some 77) _) _
                simp only [Act.put, List.setIfInBounds_toArray, List.set_cons_zero, List.set_cons_succ]
                refine till_take (i := 20) (v := ?_) 20 (by kernel_rfl) (Or.inl rfl) (by kernel_rfl) rfl (by kernel_rfl) (by kernel_rfl) (by kernel_rfl) (fun _ _ _ h => h) (Or.inl ⟨by rfl, ?_⟩) hHeld ?_
                rotate_left
                · intro u hSu
                  (go_simp) <;> (with_reducible rfl)
                change wpTill _ _ _ _ _ _ _ _ (Act.put _ (some 78) _) _
                simp only [Act.put, List.setIfInBounds_toArray, List.set_cons_zero, List.set_cons_succ]
                refine till_last (by kernel_rfl) (by kernel_rfl) rfl (fun K hK => ?_)
                obtain ⟨q1, q5⟩ := HKU.out w5 HO5.out.below
                go_simp
                refine hK.out _ _ ?_
                refine NoPanic.normal ?_
                clear hK K hHeld q1 q5
                go_wp2
                go_ret
                exact HEND.out w5 a5 c5 HO5.out
              refine AllTill.cons rfl (fun K hK => ?_) AllTill.nil
              refine step_build_ver rfl (.tmp 67) rfl V HVK.out rfl ?_
              refine hK.out _ _ ?_ (fun hHeld2 => ?_)
              · exact hHeld.alloc hHeld.size _
              clear hK K hHeld
              have hHeld := hHeld2
              clear hHeld2
              change wpTill _ _ _ _ _ _ _ _ (Act.put _ (some 68) _) _
              simp only [Act.put, List.setIfInBounds_toArray, List.set_cons_zero, List.set_cons_succ]
              refine till_ready (rs := [1]) (by kernel_rfl) (by simp) ?_
              refine AllTill.cons rfl (fun K hK => ?_) AllTill.nil
              go_simp
              refine hK.out _ _ ?_ (fun hHeld2 => ?_)
              · exact hHeld.alloc hHeld.size _
              clear hK K hHeld
              have hHeld := hHeld2
              clear hHeld2
              refine till_ready (rs := [8]) (by kernel_rfl) (by simp) ?_
              refine AllTill.cons rfl (fun K hK => ?_) AllTill.nil
              refine step_own verEl (w0 := U) rfl (.tmp 59) (.tmp 65) rfl _ 0 [] AA rfl (own_behind 127 20 U _) _ _ _ rfl LA.out (S1.out _ (own_behind 127 20 U _).below) O1.out N1.out J (Nat.zero_add _) (by omega) AA (List.nil_append _) ?_
              intro a3 c3 w3 h1 h2
              have HO3 : Hid (OwnB 127 20 U w3 (.slice a3 J c3) J AA) := h1
              have HX3 : Hid (Lies w3 (some ⟨U.heap.size, 0, none⟩) (encV V)) := (made_ahead U 127 127 #[] _ _ _).step (v' := .slice none 0 0) h2
              clear h1 h2
              refine hK.out _ _ ?_ (fun hHeld2 => ?_)
              · exact HO3.out.below
              clear hK K hHeld
              have hHeld := hHeld2
              clear hHeld2
              change wpTill _ _ _ _ _ _ _ _ (Act.put _ (some 66) _) _
              simp only [Act.put, List.setIfInBounds_toArray, List.set_cons_zero, List.set_cons_succ]
              refine till_ready (rs := [11]) (by kernel_rfl) (by simp) ?_
              refine AllTill.cons rfl (fun K hK => ?_) AllTill.nil
              refine step_own verEl (w0 := U) rfl (.tmp 66) (.tmp 68) rfl _ J AA (encV V) rfl (HO3.out) _ _ _ rfl HLV.out (HX3.out) OV.out (fun h => by cases h) (J + 1) rfl (by omega) (AA ++ encV V) rfl ?_
              intro a4 c4 w4 h1 h2
              have HO4 : Hid (OwnB 127 20 U w4 (.slice a4 (J + 1) c4) (J + 1) (AA ++ encV V)) := h1
              clear h1 h2 HO3
              refine hK.out _ _ ?_ (fun hHeld2 => ?_)
              · exact HO4.out.below
              clear hK K hHeld
              have hHeld := hHeld2
              clear hHeld2
              change wpTill _ _ _ _ _ _ _ _ (Act.put _ (some 69) _) _
              simp only [Act.put, List.setIfInBounds_toArray, List.set_cons_zero, List.set_cons_succ]
              refine till_ready (rs := [18]) (by kernel_rfl) (by simp) ?_
              refine AllTill.cons rfl (fun K hK => ?_) AllTill.nil
              refine step_own verEl (w0 := U) rfl (.tmp 69) (.tmp 75) rfl _ (J + 1) (AA ++ encV V) BB rfl HO4.out _ _ _ rfl LB.out (S2.out _ HO4.out.below) O2.out N2.out (J + 1 + (N - J)) rfl (by omega) (AA ++ encV V ++ BB) rfl ?_
              intro a5 c5 w5 h1 h2
              have HO5 : Hid (OwnB 127 20 U w5 (.slice a5 (J + 1 + (N - J)) c5) (J + 1 + (N - J)) (AA ++ encV V ++ BB)) := h1
              clear h1 h2 HO4
              refine hK.out _ _ ?_ (fun hHeld2 => ?_)
              · exact HO5.out.below
              clear hK K hHeld
              have hHeld := hHeld2
              clear hHeld2
              change wpTill _ _ _ _ _ _ _ _ (Act.put _ (some 76) _) _
              simp only [Act.put, List.setIfInBounds_toArray, List.set_cons_zero, List.set_cons_succ]
              refine till_take (i := 19) (v := ?_) 20 (by kernel_rfl) (Or.inr (by kernel_rfl)) (by kernel_rfl) rfl (by kernel_rfl) (by kernel_rfl) (by kernel_rfl) (fun _ _ _ h => h) (Or.inl ⟨by rfl, ?_⟩) hHeld ?_
              rotate_left
              · intro u hSu
                (go_simp) <;> (with_reducible rfl)
              change wpTill _ _ _ _ _ _ _ _ (Act.put _ (some 77) _) _
              simp only [Act.put, List.setIfInBounds_toArray, List.set_cons_zero, List.set_cons_succ]
              refine till_take (i := 20) (v := ?_) 20 (by kernel_rfl) (Or.inl rfl) (by kernel_rfl) rfl (by kernel_rfl) (by kernel_rfl) (by kernel_rfl) (fun _ _ _ h => h) (Or.inl ⟨by rfl, ?_⟩) hHeld ?_
              rotate_left
              · intro u hSu
                (go_simp) <;> (with_reducible rfl)
              change wpTill _ _ _ _ _ _ _ _ (Act.put _ (some 78) _) _
              simp only [Act.put, List.setIfInBounds_toArray, List.set_cons_zero, List.set_cons_succ]
              refine till_last (by kernel_rfl) (by kernel_rfl) rfl (fun K hK => ?_)
              obtain ⟨q1, q5⟩ := HKU.out w5 HO5.out.below
              go_simp
              refine hK.out _ _ ?_
              refine NoPanic.normal ?_
              clear hK K hHeld q1 q5
              go_wp2
              go_ret
              exact HEND.out w5 a5 c5 HO5.out
      · have bl : decide ((J : Int) < (E : Int)) = false := decide_eq_false (by have := HEE.out; omega)
        have hJE : ¬ J < E := by have := HEE.out; omega
        have HR : Hid (putR L V = r) := putR_is (by rw [HM.out]; exact hr) (by rw [HI.out, ← HTN.out.1, ← HTN.out.2]; exact HX.out) (.inl (by rw [HM.out]; omega))
        have HCL : Hid (clashV L V = false) := clash_none (by rw [HR.out, HM.out]; omega)
        clear hJ
        have BWwr : Hid (Below w.heap.size w wr) := HBW.out.trans (HBwr.out.mono HBW.out.size)
        have FT : Hid (∀ u, Below wr.heap.size wr u → u.cell? ⟨w.heap.size, 16, none⟩ = some (.int .i64 t) ∧ u.cell? ⟨w.heap.size, 17, none⟩ = some (.int .u8 n)) := fun u hb => by
          have := (HVM.out.past (HBwr.out.trans (hb.mono HBwr.out.size))).cells0 HVK.out
          rw [HTN.out.1, HTN.out.2]
          exact ⟨this.1, this.2.1⟩
        go_wp2
        refine wp_region_noPanic ?_
        refine wp_region_held_drew (S := fun u => Below wr.heap.size wr u) (by kernel_rfl) ?_ (fun hHeld => ?_)
        · exact (Below.refl _ _).drew
        refine wpAnyH_take (i := 0) (v := ?_) rfl (by kernel_rfl) (by kernel_rfl) (by kernel_rfl) (fun _ _ _ h => h) (Or.inl ⟨by rfl, ?_⟩) hHeld ?_
        rotate_left
        · intro u hSu
          (go_simp) <;> (with_reducible rfl)
        change wpAnyH _ _ _ _ _ _ _ (Act.put _ (some 19) _) _
        simp only [Act.put, List.setIfInBounds_toArray, List.set_cons_zero, List.set_cons_succ]
        refine wpAnyH_take (i := 1) (v := ?_) rfl (by kernel_rfl) (by kernel_rfl) (by kernel_rfl) (fun _ _ _ h => h) (Or.inl ⟨by rfl, ?_⟩) hHeld ?_
        rotate_left
        · intro u hSu
          (go_simp) <;> (with_reducible rfl)
        change wpAnyH _ _ _ _ _ _ _ (Act.put _ (some 20) _) _
        simp only [Act.put, List.setIfInBounds_toArray, List.set_cons_zero, List.set_cons_succ]
        refine wpAnyH_take (i := 2) (v := ?_) rfl (by kernel_rfl) (by kernel_rfl) (by kernel_rfl) (fun _ _ _ h => h) (Or.inl ⟨by rfl, ?_⟩) hHeld ?_
        rotate_left
        · intro u hSu
          (go_simp) <;> (with_reducible rfl)
        change wpAnyH _ _ _ _ _ _ _ (Act.put _ (some 21) _) _
        simp only [Act.put, List.setIfInBounds_toArray, List.set_cons_zero, List.set_cons_succ]
        refine wpAnyH_take (i := 3) (v := ?_) rfl (by kernel_rfl) (by kernel_rfl) (by kernel_rfl) (fun _ _ _ h => h) (Or.inl ⟨by rfl, ?_⟩) hHeld ?_
        rotate_left
        · intro u hSu
          (go_simp) <;> (with_reducible rfl)
        change wpAnyH _ _ _ _ _ _ _ (Act.put _ (some 22) _) _
        simp only [Act.put, List.setIfInBounds_toArray, List.set_cons_zero, List.set_cons_succ]
        refine wpAnyH_take (i := 4) (v := undef) rfl (by kernel_rfl) (by kernel_rfl) (by kernel_rfl) (fun _ _ _ h => h) (Or.inr ⟨by rfl, rfl⟩) hHeld ?_
        change wpAnyH _ _ _ _ _ _ _ (Act.put _ (some 23) _) _
        simp only [Act.put, List.setIfInBounds_toArray, List.set_cons_zero, List.set_cons_succ]
        refine wpAnyH_take (i := 5) (v := undef) rfl (by kernel_rfl) (by kernel_rfl) (by kernel_rfl) (fun _ _ _ h => h) (Or.inr ⟨by rfl, rfl⟩) hHeld ?_
        change wpAnyH _ _ _ _ _ _ _ (Act.put _ (some 24) _) _
        simp only [Act.put, List.setIfInBounds_toArray, List.set_cons_zero, List.set_cons_succ]
        refine wpAnyH_take (i := 6) (v := undef) rfl (by kernel_rfl) (by kernel_rfl) (by kernel_rfl) (fun _ _ _ h => h) (Or.inr ⟨by rfl, rfl⟩) hHeld ?_
        change wpAnyH _ _ _ _ _ _ _ (Act.put _ (some 25) _) _
        simp only [Act.put, List.setIfInBounds_toArray, List.set_cons_zero, List.set_cons_succ]
        refine wpAnyH_take (i := 7) (v := undef) rfl (by kernel_rfl) (by kernel_rfl) (by kernel_rfl) (fun _ _ _ h => h) (Or.inr ⟨by rfl, rfl⟩) hHeld ?_
        change wpAnyH _ _ _ _ _ _ _ (Act.put _ (some 26) _) _
        simp only [Act.put, List.setIfInBounds_toArray, List.set_cons_zero, List.set_cons_succ]
        refine wpAnyH_take (i := 8) (v := undef) rfl (by kernel_rfl) (by kernel_rfl) (by kernel_rfl) (fun _ _ _ h => h) (Or.inr ⟨by rfl, rfl⟩) hHeld ?_
        change wpAnyH _ _ _ _ _ _ _ (Act.put _ (some 27) _) _
        simp only [Act.put, List.setIfInBounds_toArray, List.set_cons_zero, List.set_cons_succ]
        refine wpAnyH_take (i := 9) (v := undef) rfl (by kernel_rfl) (by kernel_rfl) (by kernel_rfl) (fun _ _ _ h => h) (Or.inr ⟨by rfl, rfl⟩) hHeld ?_
        change wpAnyH _ _ _ _ _ _ _ (Act.put _ (some 28) _) _
        simp only [Act.put, List.setIfInBounds_toArray, List.set_cons_zero, List.set_cons_succ]
        refine wpAnyH_take (i := 10) (v := undef) rfl (by kernel_rfl) (by kernel_rfl) (by kernel_rfl) (fun _ _ _ h => h) (Or.inr ⟨by rfl, rfl⟩) hHeld ?_
        change wpAnyH _ _ _ _ _ _ _ (Act.put _ (some 29) _) _
        simp only [Act.put, List.setIfInBounds_toArray, List.set_cons_zero, List.set_cons_succ]
        refine wpAnyH_take (i := 11) (v := undef) rfl (by kernel_rfl) (by kernel_rfl) (by kernel_rfl) (fun _ _ _ h => h) (Or.inr ⟨by rfl, rfl⟩) hHeld ?_
        change wpAnyH _ _ _ _ _ _ _ (Act.put _ (some 30) _) _
        simp only [Act.put, List.setIfInBounds_toArray, List.set_cons_zero, List.set_cons_succ]
        refine wpAnyH_take (i := 12) (v := undef) rfl (by kernel_rfl) (by kernel_rfl) (by kernel_rfl) (fun _ _ _ h => h) (Or.inr ⟨by rfl, rfl⟩) hHeld ?_
        change wpAnyH _ _ _ _ _ _ _ (Act.put _ (some 31) _) _
        simp only [Act.put, List.setIfInBounds_toArray, List.set_cons_zero, List.set_cons_succ]
        refine wpAnyH_take (i := 13) (v := undef) rfl (by kernel_rfl) (by kernel_rfl) (by kernel_rfl) (fun _ _ _ h => h) (Or.inr ⟨by rfl, rfl⟩) hHeld ?_
        change wpAnyH _ _ _ _ _ _ _ (Act.put _ (some 32) _) _
        simp only [Act.put, List.setIfInBounds_toArray, List.set_cons_zero, List.set_cons_succ]
        refine wpAnyH_take (i := 14) (v := undef) rfl (by kernel_rfl) (by kernel_rfl) (by kernel_rfl) (fun _ _ _ h => h) (Or.inr ⟨by rfl, rfl⟩) hHeld ?_
        change wpAnyH _ _ _ _ _ _ _ (Act.put _ (some 33) _) _
        simp only [Act.put, List.setIfInBounds_toArray, List.set_cons_zero, List.set_cons_succ]
        refine wpAnyH_take (i := 15) (v := undef) rfl (by kernel_rfl) (by kernel_rfl) (by kernel_rfl) (fun _ _ _ h => h) (Or.inr ⟨by rfl, rfl⟩) hHeld ?_
        change wpAnyH _ _ _ _ _ _ _ (Act.put _ (some 34) _) _
        simp only [Act.put, List.setIfInBounds_toArray, List.set_cons_zero, List.set_cons_succ]
        refine wpAnyH_take (i := 16) (v := ?_) rfl (by kernel_rfl) (by kernel_rfl) (by kernel_rfl) (fun _ _ _ h => h) (Or.inl ⟨by rfl, ?_⟩) hHeld ?_
        rotate_left
        · intro u hSu
          (go_simp) <;> (with_reducible rfl)
        change wpAnyH _ _ _ _ _ _ _ (Act.put _ (some 35) _) _
        simp only [Act.put, List.setIfInBounds_toArray, List.set_cons_zero, List.set_cons_succ]
        refine wpAnyH_done (by kernel_rfl) ?_ _
        refine NoPanic.normal ?_
        obtain ⟨Y, hY⟩ : ∃ Y, Y = wr.drew := ⟨_, rfl⟩
        have HBY : Hid (Below V0.heap.size V0 Y) := by rw [hY]; exact HBwr.out.drew
        rw [← hY]
        clear hY HX HBwr BWwr
        clear FT
        have BWY : Hid (Below w.heap.size w Y) := HBW.out.trans (HBY.out.mono HBW.out.size)
        have FT : Hid (∀ u, Below Y.heap.size Y u → u.cell? ⟨w.heap.size, 16, none⟩ = some (.int .i64 t) ∧ u.cell? ⟨w.heap.size, 17, none⟩ = some (.int .u8 n)) := fun u hb => by
          have := (HVM.out.past (HBY.out.trans (hb.mono HBY.out.size))).cells0 HVK.out
          rw [HTN.out.1, HTN.out.2]
          exact ⟨this.1, this.2.1⟩
        go_wp2
        refine wp_region_noPanic ?_
        refine wp_region_held_drew (S := fun u => Below Y.heap.size Y u) (by kernel_rfl) ?_ (fun hHeld => ?_)
        · exact (Below.refl _ _).drew
        refine wpAnyH_take (i := 0) (v := ?_) rfl (by kernel_rfl) (by kernel_rfl) (by kernel_rfl) (fun _ _ _ h => h) (Or.inl ⟨by rfl, ?_⟩) hHeld ?_
        rotate_left
        · intro u hSu
          (go_simp) <;> (with_reducible rfl)
        change wpAnyH _ _ _ _ _ _ _ (Act.put _ (some 38) _) _
        simp only [Act.put, List.setIfInBounds_toArray, List.set_cons_zero, List.set_cons_succ]
        refine wpAnyH_take (i := 1) (v := ?_) rfl (by kernel_rfl) (by kernel_rfl) (by kernel_rfl) (fun _ _ _ h => h) (Or.inl ⟨by rfl, ?_⟩) hHeld ?_
        rotate_left
        · intro u hSu
          (go_simp) <;> (with_reducible rfl)
        change wpAnyH _ _ _ _ _ _ _ (Act.put _ (some 39) _) _
        simp only [Act.put, List.setIfInBounds_toArray, List.set_cons_zero, List.set_cons_succ]
        refine wpAnyH_take (i := 2) (v := ?_) rfl (by kernel_rfl) (by kernel_rfl) (by kernel_rfl) (fun _ _ _ h => h) (Or.inl ⟨by rfl, ?_⟩) hHeld ?_
        rotate_left
        · intro u hSu
          (go_simp) <;> (with_reducible rfl)
        change wpAnyH _ _ _ _ _ _ _ (Act.put _ (some 40) _) _
        simp only [Act.put, List.setIfInBounds_toArray, List.set_cons_zero, List.set_cons_succ]
        refine wpAnyH_take (i := 3) (v := ?_) rfl (by kernel_rfl) (by kernel_rfl) (by kernel_rfl) (fun _ _ _ h => h) (Or.inl ⟨by rfl, ?_⟩) hHeld ?_
        rotate_left
        · intro u hSu
          (go_simp) <;> (with_reducible rfl)
        change wpAnyH _ _ _ _ _ _ _ (Act.put _ (some 41) _) _
        simp only [Act.put, List.setIfInBounds_toArray, List.set_cons_zero, List.set_cons_succ]
        refine wpAnyH_take (i := 4) (v := undef) rfl (by kernel_rfl) (by kernel_rfl) (by kernel_rfl) (fun _ _ _ h => h) (Or.inr ⟨by rfl, rfl⟩) hHeld ?_
        change wpAnyH _ _ _ _ _ _ _ (Act.put _ (some 42) _) _
        simp only [Act.put, List.setIfInBounds_toArray, List.set_cons_zero, List.set_cons_succ]
        refine wpAnyH_take (i := 5) (v := undef) rfl (by kernel_rfl) (by kernel_rfl) (by kernel_rfl) (fun _ _ _ h => h) (Or.inr ⟨by rfl, rfl⟩) hHeld ?_
        change wpAnyH _ _ _ _ _ _ _ (Act.put _ (some 43) _) _
        simp only [Act.put, List.setIfInBounds_toArray, List.set_cons_zero, List.set_cons_succ]
        refine wpAnyH_take (i := 6) (v := undef) rfl (by kernel_rfl) (by kernel_rfl) (by kernel_rfl) (fun _ _ _ h => h) (Or.inr ⟨by rfl, rfl⟩) hHeld ?_
        change wpAnyH _ _ _ _ _ _ _ (Act.put _ (some 44) _) _
        simp only [Act.put, List.setIfInBounds_toArray, List.set_cons_zero, List.set_cons_succ]
        refine wpAnyH_take (i := 7) (v := undef) rfl (by kernel_rfl) (by kernel_rfl) (by kernel_rfl) (fun _ _ _ h => h) (Or.inr ⟨by rfl, rfl⟩) hHeld ?_
        change wpAnyH _ _ _ _ _ _ _ (Act.put _ (some 45) _) _
        simp only [Act.put, List.setIfInBounds_toArray, List.set_cons_zero, List.set_cons_succ]
        refine wpAnyH_take (i := 8) (v := undef) rfl (by kernel_rfl) (by kernel_rfl) (by kernel_rfl) (fun _ _ _ h => h) (Or.inr ⟨by rfl, rfl⟩) hHeld ?_
        change wpAnyH _ _ _ _ _ _ _ (Act.put _ (some 46) _) _
        simp only [Act.put, List.setIfInBounds_toArray, List.set_cons_zero, List.set_cons_succ]
        refine wpAnyH_take (i := 9) (v := undef) rfl (by kernel_rfl) (by kernel_rfl) (by kernel_rfl) (fun _ _ _ h => h) (Or.inr ⟨by rfl, rfl⟩) hHeld ?_
        change wpAnyH _ _ _ _ _ _ _ (Act.put _ (some 47) _) _
        simp only [Act.put, List.setIfInBounds_toArray, List.set_cons_zero, List.set_cons_succ]
        refine wpAnyH_take (i := 10) (v := undef) rfl (by kernel_rfl) (by kernel_rfl) (by kernel_rfl) (fun _ _ _ h => h) (Or.inr ⟨by rfl, rfl⟩) hHeld ?_
        change wpAnyH _ _ _ _ _ _ _ (Act.put _ (some 48) _) _
        simp only [Act.put, List.setIfInBounds_toArray, List.set_cons_zero, List.set_cons_succ]
        refine wpAnyH_take (i := 11) (v := undef) rfl (by kernel_rfl) (by kernel_rfl) (by kernel_rfl) (fun _ _ _ h => h) (Or.inr ⟨by rfl, rfl⟩) hHeld ?_
        change wpAnyH _ _ _ _ _ _ _ (Act.put _ (some 49) _) _
        simp only [Act.put, List.setIfInBounds_toArray, List.set_cons_zero, List.set_cons_succ]
        refine wpAnyH_take (i := 12) (v := undef) rfl (by kernel_rfl) (by kernel_rfl) (by kernel_rfl) (fun _ _ _ h => h) (Or.inr ⟨by rfl, rfl⟩) hHeld ?_
        change wpAnyH _ _ _ _ _ _ _ (Act.put _ (some 50) _) _
        simp only [Act.put, List.setIfInBounds_toArray, List.set_cons_zero, List.set_cons_succ]
        refine wpAnyH_take (i := 13) (v := undef) rfl (by kernel_rfl) (by kernel_rfl) (by kernel_rfl) (fun _ _ _ h => h) (Or.inr ⟨by rfl, rfl⟩) hHeld ?_
        change wpAnyH _ _ _ _ _ _ _ (Act.put _ (some 51) _) _
        simp only [Act.put, List.setIfInBounds_toArray, List.set_cons_zero, List.set_cons_succ]
        refine wpAnyH_take (i := 14) (v := undef) rfl (by kernel_rfl) (by kernel_rfl) (by kernel_rfl) (fun _ _ _ h => h) (Or.inr ⟨by rfl, rfl⟩) hHeld ?_
        change wpAnyH _ _ _ _ _ _ _ (Act.put _ (some 52) _) _
        simp only [Act.put, List.setIfInBounds_toArray, List.set_cons_zero, List.set_cons_succ]
        refine wpAnyH_take (i := 15) (v := ?_) rfl (by kernel_rfl) (by kernel_rfl) (by kernel_rfl) (fun _ _ _ h => h) (Or.inl ⟨by rfl, ?_⟩) hHeld ?_
        rotate_left
        · intro u hSu
          (go_simp) <;> (with_reducible rfl)
        change wpAnyH _ _ _ _ _ _ _ (Act.put _ (some 53) _) _
        simp only [Act.put, List.setIfInBounds_toArray, List.set_cons_zero, List.set_cons_succ]
        refine wpAnyH_done (by kernel_rfl) ?_ _
        refine NoPanic.normal ?_
        obtain ⟨U, hU⟩ : ∃ U, U = Y.drew := ⟨_, rfl⟩
        have HBU : Hid (Below V0.heap.size V0 U) := by rw [hU]; exact HBY.out.drew
        rw [← hU]
        clear hU FT
        have HWU : Hid (Below w.heap.size w U) := HBW.out.trans (HBU.out.mono HBW.out.size)
        have hiE : i ≤ E := by have := HEE.out; omega
        have hE1 : E ≤ 1000000 := by have := HEE.out; omega
        have hJ1 : J ≤ N := by have := HJ.out; have := HEE.out; omega
        by_cases h50 : 50 ≤ m
        · have bm : decide ((50 : Int) ≤ (E : Int) - (i : Int)) = true := decide_eq_true (by have := HEE.out; omega)
          have HE : Hid (PV = (6, L)) := by show PV = _; rw [HPV2.out, if_neg (by rw [HCL.out]; simp), if_pos h50]
          go_wp2
          go_ret
          rw [HE.out]
          exact ⟨rfl, HST.out.past HWU.out, Chg.of_below HWU.out _⟩
        · have bm : decide ((50 : Int) ≤ (E : Int) - (i : Int)) = false := decide_eq_false (by have := HEE.out; omega)
          have HE : Hid (PV = (0, L.take J ++ V :: L.drop J)) := by show PV = _; rw [HPV2.out, if_neg (by rw [HCL.out]; simp), if_neg h50, show putAt L V = J from by unfold putAt; rw [HI.out, HR.out, HJ.out]]
          go_wp2
          have HKU : Hid (∀ u, Below U.heap.size U u → u.cell? ⟨p, 0, none⟩ = some (.slice a0 N c0) ∧ u.frozen? ⟨p, 0, none⟩ = false) := fun u hb => by
            have hb' := HWU.out.trans (hb.mono HWU.out.size)
            exact ⟨HCE.out u hb', (hb'.frozen (p := ⟨p, 0, none⟩) HST.out.lt).trans HST.out.free⟩
          have FVV : Hid (∀ u, Below U.heap.size U u → VerAt u w.heap.size 0 V) := fun u hb => HVM.out.past (HBU.out.trans (hb.mono HBU.out.size))
          have hsT : ∀ u, (Instr.slice 109 (.slice a0 N c0) none (some (.int .i64 (J : Int))) none).run Tryz.prog u = .ok (.slice a0 J c0) u := fun u => slice_versT u _ HA.out N c0 J (by omega) (fun e => (hnil e).1) (fun e => (hnil e).2)
          obtain ⟨A2, hA2⟩ : ∃ A2, A2 = dropV a0 c0 J := ⟨_, rfl⟩
          have hsL : ∀ u, (Instr.slice 109 (.slice a0 N c0) (some (.int .i64 (J : Int))) none none).run Tryz.prog u = .ok (.slice A2 (N - J) (c0 - J)) u := fun u => by rw [hA2]; exact slice_versL u _ HA.out N c0 J (by omega) hcap (fun e => (hnil e).1)
          obtain ⟨AA, hAA⟩ : ∃ AA, AA = (L.take J).flatMap encV := ⟨_, rfl⟩
          obtain ⟨BB, hBB⟩ : ∃ BB, BB = (L.drop J).flatMap encV := ⟨_, rfl⟩
          have LA : Hid (AA.length = J * 20) := by show _ = _; rw [hAA, flat_len (enc := encV) (size := 20) _ (fun x hx => HOK.out.len x (List.mem_of_mem_take hx)), List.length_take, HN.out]; omega
          have LB : Hid (BB.length = (N - J) * 20) := by show _ = _; rw [hBB, flat_len (enc := encV) (size := 20) _ (fun x hx => HOK.out.len x (List.mem_of_mem_drop hx)), List.length_drop, HN.out]
          have HLV : Hid ((encV V).length = 1 * 20) := enc_len HVK.out
          have S1 : Hid (∀ u, Below U.heap.size U u → Lies u a0 AA) := fun u hb => by rw [hAA]; exact lies_takeV HA.out (HLI.out u (HWU.out.trans (hb.mono HWU.out.size))) HOK.out
          have S2 : Hid (∀ u, Below U.heap.size U u → Lies u A2 BB) := fun u hb => by rw [hBB, hA2]; exact lies_dropV HA.out (HLI.out u (HWU.out.trans (hb.mono HWU.out.size))) HOK.out (by rw [HN.out]; exact hcap)
          have O1 : Hid (∀ u ∈ AA, u.oneCell' = true) := by rw [hAA]; exact encs_one _
          have O2 : Hid (∀ u ∈ BB, u.oneCell' = true) := by rw [hBB]; exact encs_one _
          have OV : Hid (∀ u ∈ encV V, u.oneCell' = true) := enc_one V
          have N1 : Hid (a0 = none → J = 0 ∧ c0 = 0) := fun e => ⟨by have := (hnil e).2; omega, (hnil e).1⟩
          have N2 : Hid (A2 = none → N - J = 0 ∧ c0 - J = 0) := fun e => by
            have e' : a0 = none := dropV_none (by rw [← hA2]; exact e)
            have h1 := hnil e'; omega
          have HEND : Hid (∀ (w5 : World) (a5 : Option Addr) (c5 : Nat), OwnB 127 20 U w5 (.slice a5 (J + 1 + (N - J)) c5) (J + 1 + (N - J)) (AA ++ encV V ++ BB) → Ending.returned (.int .i64 0) = .returned (.int .i64 PV.1) ∧ StoreR (w5.setCell ⟨p, 0, none⟩ (.slice a5 (J + 1 + (N - J)) c5)) B p PV.2 ∧ Chg w (w5.setCell ⟨p, 0, none⟩ (.slice a5 (J + 1 + (N - J)) c5)) (fun k => k = p)) := fun w5 a5 c5 ho => by
            have hb5 : Below w.heap.size w w5 := HWU.out.trans (ho.below.mono HWU.out.size)
            have ho' := ho.own
            have he : AA ++ encV V ++ BB = (L.take J ++ V :: L.drop J).flatMap encV := by rw [hAA, hBB]; simp
            rw [he] at ho'
            rw [HE.out]
            exact ⟨rfl, HST.out.turn hb5 (by rw [List.length_append, List.length_cons, List.length_take, List.length_drop, HN.out]; omega) (own_lower10 ho' HWU.out.size) hB (ins_ok HOK.out HVO.out J) (by omega)⟩
          clear hAA hBB hA2
          refine wp_region_noPanic ?_
          refine region_till 21 (fun u => Below U.heap.size U u) (by kernel_rfl) ?_ (fun hHeld => ?_)
          · exact (Below.refl _ _).drew
          refine till_take (i := 0) (v := ?_) 0 (by kernel_rfl) (Or.inl rfl) (by kernel_rfl) rfl (by kernel_rfl) (by kernel_rfl) (by kernel_rfl) (fun _ _ _ h => h) (Or.inl ⟨by rfl, ?_⟩) hHeld ?_
          rotate_left
          · intro u hSu
            (go_simp) <;> (with_reducible rfl)
          change wpTill _ _ _ _ _ _ _ _ (Act.put _ (some 58) _) _
          simp only [Act.put, List.setIfInBounds_toArray, List.set_cons_zero, List.set_cons_succ]
          refine till_take (i := 2) (v := ?_) 2 (by kernel_rfl) (Or.inl rfl) (by kernel_rfl) rfl (by kernel_rfl) (by kernel_rfl) (by kernel_rfl) (fun _ _ _ h => h) (Or.inl ⟨by rfl, ?_⟩) hHeld ?_
          rotate_left
          · intro u hSu
            (go_simp) <;> (with_reducible rfl)
          change wpTill _ _ _ _ _ _ _ _ (Act.put _ (some 60) _) _
          simp only [Act.put, List.setIfInBounds_toArray, List.set_cons_zero, List.set_cons_succ]
          refine till_take (i := 3) (v := ?_) 3 (by kernel_rfl) (Or.inl rfl) (by kernel_rfl) rfl (by kernel_rfl) (by kernel_rfl) (by kernel_rfl) (fun _ _ _ h => h) (Or.inl ⟨by rfl, ?_⟩) hHeld ?_
          rotate_left
          · intro u hSu
            (go_simp) <;> (with_reducible rfl)
          change wpTill _ _ _ _ _ _ _ _ (Act.put _ (some 61) _) _
          simp only [Act.put, List.setIfInBounds_toArray, List.set_cons_zero, List.set_cons_succ]
          refine till_take (i := 4) (v := ?_) 4 (by kernel_rfl) (Or.inl rfl) (by kernel_rfl) rfl (by kernel_rfl) (by kernel_rfl) (by kernel_rfl) (fun _ _ _ h => h) (Or.inl ⟨by rfl, ?_⟩) hHeld ?_
          rotate_left
          · intro u hSu
            (go_simp) <;> (with_reducible rfl)
          change wpTill _ _ _ _ _ _ _ _ (Act.put _ (some 62) _) _
          simp only [Act.put, List.setIfInBounds_toArray, List.set_cons_zero, List.set_cons_succ]
          refine till_take (i := 5) (v := ?_) 5 (by kernel_rfl) (Or.inl rfl) (by kernel_rfl) rfl (by kernel_rfl) (by kernel_rfl) (by kernel_rfl) (fun _ _ _ h => h) (Or.inl ⟨by rfl, ?_⟩) hHeld ?_
          rotate_left
          · intro u hSu
            obtain ⟨q1, q5⟩ := HKU.out u hSu
            (go_simp) <;> (with_reducible rfl)
          change wpTill _ _ _ _ _ _ _ _ (Act.put _ (some 63) _) _
          simp only [Act.put, List.setIfInBounds_toArray, List.set_cons_zero, List.set_cons_succ]
          refine till_take (i := 6) (v := ?_) 6 (by kernel_rfl) (Or.inl rfl) (by kernel_rfl) rfl (by kernel_rfl) (by kernel_rfl) (by kernel_rfl) (fun _ _ _ h => h) (Or.inl ⟨by rfl, ?_⟩) hHeld ?_
          rotate_left
          · intro u hSu
            (go_simp) <;> (with_reducible rfl)
          change wpTill _ _ _ _ _ _ _ _ (Act.put _ (some 64) _) _
          simp only [Act.put, List.setIfInBounds_toArray, List.set_cons_zero, List.set_cons_succ]
          refine till_take (i := 7) (v := ?_) 7 (by kernel_rfl) (Or.inl rfl) (by kernel_rfl) rfl (by kernel_rfl) (by kernel_rfl) (by kernel_rfl) (fun _ _ _ h => h) (Or.inl ⟨by rfl, ?_⟩) hHeld ?_
          rotate_left
          · intro u hSu
            have q := hsT u
            (go_simp) <;> (with_reducible rfl)
          change wpTill _ _ _ _ _ _ _ _ (Act.put _ (some 65) _) _
          simp only [Act.put, List.setIfInBounds_toArray, List.set_cons_zero, List.set_cons_succ]
          refine till_take (i := 9) (v := vv V) 9 (by kernel_rfl) (Or.inl rfl) (by kernel_rfl) rfl (by kernel_rfl) (by kernel_rfl) (by kernel_rfl) (fun _ _ _ h => h) (yieldsIf_load_mid (by rfl) _ _ rfl _ _ rfl (encV V) _ (fun u hu => (FVV.out u hu).range) Tryz.underlying127 rfl (info_verl V HVK.out)) hHeld ?_
          change wpTill _ _ _ _ _ _ _ _ (Act.put _ (some 67) _) _
          simp only [Act.put, List.setIfInBounds_toArray, List.set_cons_zero, List.set_cons_succ]
          refine till_take (i := 12) (v := ?_) 12 (by kernel_rfl) (Or.inl rfl) (by kernel_rfl) rfl (by kernel_rfl) (by kernel_rfl) (by kernel_rfl) (fun _ _ _ h => h) (Or.inl ⟨by rfl, ?_⟩) hHeld ?_
          rotate_left
          · intro u hSu
            (go_simp) <;> (with_reducible rfl)
          change wpTill _ _ _ _ _ _ _ _ (Act.put _ (some 70) _) _
          simp only [Act.put, List.setIfInBounds_toArray, List.set_cons_zero, List.set_cons_succ]
          refine till_take (i := 13) (v := ?_) 13 (by kernel_rfl) (Or.inl rfl) (by kernel_rfl) rfl (by kernel_rfl) (by kernel_rfl) (by kernel_rfl) (fun _ _ _ h => h) (Or.inl ⟨by rfl, ?_⟩) hHeld ?_
          rotate_left
          · intro u hSu
            (go_simp) <;> (with_reducible rfl)
          change wpTill _ _ _ _ _ _ _ _ (Act.put _ (some 71) _) _
          simp only [Act.put, List.setIfInBounds_toArray, List.set_cons_zero, List.set_cons_succ]
          refine till_take (i := 14) (v := ?_) 14 (by kernel_rfl) (Or.inl rfl) (by kernel_rfl) rfl (by kernel_rfl) (by kernel_rfl) (by kernel_rfl) (fun _ _ _ h => h) (Or.inl ⟨by rfl, ?_⟩) hHeld ?_
          rotate_left
          · intro u hSu
            (go_simp) <;> (with_reducible rfl)
          change wpTill _ _ _ _ _ _ _ _ (Act.put _ (some 72) _) _
          simp only [Act.put, List.setIfInBounds_toArray, List.set_cons_zero, List.set_cons_succ]
          refine till_take (i := 15) (v := ?_) 15 (by kernel_rfl) (Or.inl rfl) (by kernel_rfl) rfl (by kernel_rfl) (by kernel_rfl) (by kernel_rfl) (fun _ _ _ h => h) (Or.inl ⟨by rfl, ?_⟩) hHeld ?_
          rotate_left
          · intro u hSu
            obtain ⟨q1, q5⟩ := HKU.out u hSu
            (go_simp) <;> (with_reducible rfl)
          change wpTill _ _ _ _ _ _ _ _ (Act.put _ (some 73) _) _
          simp only [Act.put, List.setIfInBounds_toArray, List.set_cons_zero, List.set_cons_succ]
          refine till_take (i := 16) (v := ?_) 16 (by kernel_rfl) (Or.inl rfl) (by kernel_rfl) rfl (by kernel_rfl) (by kernel_rfl) (by kernel_rfl) (fun _ _ _ h => h) (Or.inl ⟨by rfl, ?_⟩) hHeld ?_
          rotate_left
          · intro u hSu
            (go_simp) <;> (with_reducible rfl)
          change wpTill _ _ _ _ _ _ _ _ (Act.put _ (some 74) _) _
          simp only [Act.put, List.setIfInBounds_toArray, List.set_cons_zero, List.set_cons_succ]
          refine till_take (i := 17) (v := ?_) 17 (by kernel_rfl) (Or.inl rfl) (by kernel_rfl) rfl (by kernel_rfl) (by kernel_rfl) (by kernel_rfl) (fun _ _ _ h => h) (Or.inl ⟨by rfl, ?_⟩) hHeld ?_
          rotate_left
          · intro u hSu
            have q := hsL u
            (go_simp) <;> (with_reducible rfl)
          change wpTill _ _ _ _ _ _ _ _ (Act.put _ (some 75) _) _
          simp only [Act.put, List.setIfInBounds_toArray, List.set_cons_zero, List.set_cons_succ]
          refine till_ready (rs := [1, 10]) (by kernel_rfl) (by simp) ?_
          refine AllTill.cons rfl (fun K hK => ?_) ?_
          · go_simp
            refine hK.out _ _ ?_ (fun hHeld2 => ?_)
            · exact hHeld.alloc hHeld.size _
            clear hK K hHeld
            have hHeld := hHeld2
            clear hHeld2
            refine till_ready (rs := [8, 10]) (by kernel_rfl) (by simp) ?_
            refine AllTill.cons rfl (fun K hK => ?_) ?_
            · refine step_own verEl (w0 := U) rfl (.tmp 59) (.tmp 65) rfl _ 0 [] AA rfl (own_one 127 20 U) _ _ _ rfl LA.out (S1.out _ (own_one 127 20 U).below) O1.out N1.out J (Nat.zero_add _) (by omega) AA (List.nil_append _) ?_
              intro a3 c3 w3 h1 h2
              have HO3 : Hid (OwnB 127 20 U w3 (.slice a3 J c3) J AA) := h1
              clear h1 h2
              refine hK.out _ _ ?_ (fun hHeld2 => ?_)
              · exact HO3.out.below
              clear hK K hHeld
              have hHeld := hHeld2
              clear hHeld2
              change wpTill _ _ _ _ _ _ _ _ (Act.put _ (some 66) _) _
              simp only [Act.put, List.setIfInBounds_toArray, List.set_cons_zero, List.set_cons_succ]
              refine till_ready (rs := [10]) (by kernel_rfl) (by simp) ?_
              refine AllTill.cons rfl (fun K hK => ?_) AllTill.nil
              refine step_build_ver rfl (.tmp 67) rfl V HVK.out rfl ?_
              refine hK.out _ _ ?_ (fun hHeld2 => ?_)
              · exact hHeld.alloc hHeld.size _
              clear hK K hHeld
              have hHeld := hHeld2
              clear hHeld2
              change wpTill _ _ _ _ _ _ _ _ (Act.put _ (some 68) _) _
              simp only [Act.put, List.setIfInBounds_toArray, List.set_cons_zero, List.set_cons_succ]
              refine till_ready (rs := [11]) (by kernel_rfl) (by simp) ?_
              refine AllTill.cons rfl (fun K hK => ?_) AllTill.nil
              refine step_own verEl (w0 := U) rfl (.tmp 66) (.tmp 68) rfl _ J AA (encV V) rfl (HO3.out.alloc _) _ _ _ rfl HLV.out (lies_made _ _ _) OV.out (fun h => by cases h) (J + 1) rfl (by omega) (AA ++ encV V) rfl ?_
              intro a4 c4 w4 h1 h2
              have HO4 : Hid (OwnB 127 20 U w4 (.slice a4 (J + 1) c4) (J + 1) (AA ++ encV V)) := h1
              clear h1 h2 HO3
              refine hK.out _ _ ?_ (fun hHeld2 => ?_)
              · exact HO4.out.below
              clear hK K hHeld
              have hHeld := hHeld2
              clear hHeld2
              change wpTill _ _ _ _ _ _ _ _ (Act.put _ (some 69) _) _
              simp only [Act.put, List.setIfInBounds_toArray, List.set_cons_zero, List.set_cons_succ]
              refine till_ready (rs := [18]) (by kernel_rfl) (by simp) ?_
              refine AllTill.cons rfl (fun K hK => ?_) AllTill.nil
              refine step_own verEl (w0 := U) rfl (.tmp 69) (.tmp 75) rfl _ (J + 1) (AA ++ encV V) BB rfl HO4.out _ _ _ rfl LB.out (S2.out _ HO4.out.below) O2.out N2.out (J + 1 + (N - J)) rfl (by omega) (AA ++ encV V ++ BB) rfl ?_
              intro a5 c5 w5 h1 h2
              have HO5 : Hid (OwnB 127 20 U w5 (.slice a5 (J + 1 + (N - J)) c5) (J + 1 + (N - J)) (AA ++ encV V ++ BB)) := h1
              clear h1 h2 HO4
              refine hK.out _ _ ?_ (fun hHeld2 => ?_)
              · exact HO5.out.below
              clear hK K hHeld
              have hHeld := hHeld2
              clear hHeld2
              change wpTill _ _ _ _ _ _ _ _ (Act.put _ (some 76) _) _
              simp only [Act.put, List.setIfInBounds_toArray, List.set_cons_zero, List.set_cons_succ]
              refine till_take (i := 19) (v := ?_) 20 (by kernel_rfl) (Or.inr (by kernel_rfl)) (by kernel_rfl) rfl (by kernel_rfl) (by kernel_rfl) (by kernel_rfl) (fun _ _ _ h => h) (Or.inl ⟨by rfl, ?_⟩) hHeld ?_
              rotate_left
              · intro u hSu
                (go_simp) <;> (with_reducible rfl)
              change wpTill _ _ _ _ _ _ _ _ (Act.put _ (some 77) _) _
              simp only [Act.put, List.setIfInBounds_toArray, List.set_cons_zero, List.set_cons_succ]
              refine till_take (i := 20) (v := ?_) 20 (by kernel_rfl) (Or.inl rfl) (by kernel_rfl) rfl (by kernel_rfl) (by kernel_rfl) (by kernel_rfl) (fun _ _ _ h => h) (Or.inl ⟨by rfl, ?_⟩) hHeld ?_
              rotate_left
              · intro u hSu
                (go_simp) <;> (with_reducible rfl)
              change wpTill _ _ _ _ _ _ _ _ (Act.put _ (some 78) _) _
              simp only [Act.put, List.setIfInBounds_toArray, List.set_cons_zero, List.set_cons_succ]
              refine till_last (by kernel_rfl) (by kernel_rfl) rfl (fun K hK => ?_)
              obtain ⟨q1, q5⟩ := HKU.out w5 HO5.out.below
              go_simp
              refine hK.out _ _ ?_
              refine NoPanic.normal ?_
              clear hK K hHeld q1 q5
              go_wp2
              go_ret
              exact HEND.out w5 a5 c5 HO5.out
            refine AllTill.cons rfl (fun K hK => ?_) AllTill.nil
            refine step_build_ver rfl (.tmp 67) rfl V HVK.out rfl ?_
            refine hK.out _ _ ?_ (fun hHeld2 => ?_)
            · exact hHeld.alloc hHeld.size _
            clear hK K hHeld
            have hHeld := hHeld2
            clear hHeld2
            change wpTill _ _ _ _ _ _ _ _ (Act.put _ (some 68) _) _
            simp only [Act.put, List.setIfInBounds_toArray, List.set_cons_zero, List.set_cons_succ]
            refine till_ready (rs := [8]) (by kernel_rfl) (by simp) ?_
            refine AllTill.cons rfl (fun K hK => ?_) AllTill.nil
            refine step_own verEl (w0 := U) rfl (.tmp 59) (.tmp 65) rfl _ 0 [] AA rfl (own_two 127 20 U _) _ _ _ rfl LA.out (S1.out _ (own_two 127 20 U _).below) O1.out N1.out J (Nat.zero_add _) (by omega) AA (List.nil_append _) ?_
            intro a3 c3 w3 h1 h2
            have HO3 : Hid (OwnB 127 20 U w3 (.slice a3 J c3) J AA) := h1
            have HX3 : Hid (Lies w3 (some ⟨(U.alloc (Obj.cells #[] 127)).drew.heap.size, 0, none⟩) (encV V)) := (by rw [show (U.alloc (Obj.cells #[] 127)).drew.heap.size = U.heap.size + 1 from by simp]; exact (made_two U 127 127 #[] _ _ _).step (v' := .slice none 0 0) h2)
            clear h1 h2
            refine hK.out _ _ ?_ (fun hHeld2 => ?_)
            · exact HO3.out.below
            clear hK K hHeld
            have hHeld := hHeld2
            clear hHeld2
            change wpTill _ _ _ _ _ _ _ _ (Act.put _ (some 66) _) _
            simp only [Act.put, List.setIfInBounds_toArray, List.set_cons_zero, List.set_cons_succ]
            refine till_ready (rs := [11]) (by kernel_rfl) (by simp) ?_
            refine AllTill.cons rfl (fun K hK => ?_) AllTill.nil
            refine step_own verEl (w0 := U) rfl (.tmp 66) (.tmp 68) rfl _ J AA (encV V) rfl (HO3.out) _ _ _ rfl HLV.out (HX3.out) OV.out (fun h => by cases h) (J + 1) rfl (by omega) (AA ++ encV V) rfl ?_
            intro a4 c4 w4 h1 h2
            have HO4 : Hid (OwnB 127 20 U w4 (.slice a4 (J + 1) c4) (J + 1) (AA ++ encV V)) := h1
            clear h1 h2 HO3
            refine hK.out _ _ ?_ (fun hHeld2 => ?_)
            · exact HO4.out.below
            clear hK K hHeld
            have hHeld := hHeld2
            clear hHeld2
            change wpTill _ _ _ _ _ _ _ _ (Act.put _ (some 69) _) _
            simp only [Act.put, List.setIfInBounds_toArray, List.set_cons_zero, List.set_cons_succ]
            refine till_ready (rs := [18]) (by kernel_rfl) (by simp) ?_
            refine AllTill.cons rfl (fun K hK => ?_) AllTill.nil
            refine step_own verEl (w0 := U) rfl (.tmp 69) (.tmp 75) rfl _ (J + 1) (AA ++ encV V) BB rfl HO4.out _ _ _ rfl LB.out (S2.out _ HO4.out.below) O2.out N2.out (J + 1 + (N - J)) rfl (by omega) (AA ++ encV V ++ BB) rfl ?_
            intro a5 c5 w5 h1 h2
            have HO5 : Hid (OwnB 127 20 U w5 (.slice a5 (J + 1 + (N - J)) c5) (J + 1 + (N - J)) (AA ++ encV V ++ BB)) := h1
            clear h1 h2 HO4
            refine hK.out _ _ ?_ (fun hHeld2 => ?_)
            · exact HO5.out.below
            clear hK K hHeld
            have hHeld := hHeld2
            clear hHeld2
            change wpTill _ _ _ _ _ _ _ _ (Act.put _ (some 76) _) _
            simp only [Act.put, List.setIfInBounds_toArray, List.set_cons_zero, List.set_cons_succ]
            refine till_take (i := 19) (v := ?_) 20 (by kernel_rfl) (Or.inr (by kernel_rfl)) (by kernel_rfl) rfl (by kernel_rfl) (by kernel_rfl) (by kernel_rfl) (fun _ _ _ h => h) (Or.inl ⟨by rfl, ?_⟩) hHeld ?_
            rotate_left
            · intro u hSu
              (go_simp) <;> (with_reducible rfl)
            change wpTill _ _ _ _ _ _ _ _ (Act.put _ (some 77) _) _
            simp only [Act.put, List.setIfInBounds_toArray, List.set_cons_zero, List.set_cons_succ]
            refine till_take (i := 20) (v := ?_) 20 (by kernel_rfl) (Or.inl rfl) (by kernel_rfl) rfl (by kernel_rfl) (by kernel_rfl) (by kernel_rfl) (fun _ _ _ h => h) (Or.inl ⟨by rfl, ?_⟩) hHeld ?_
            rotate_left
            · intro u hSu
              (go_simp) <;> (with_reducible rfl)
            change wpTill _ _ _ _ _ _ _ _ (Act.put _ (some 78) _) _
            simp only [Act.put, List.setIfInBounds_toArray, List.set_cons_zero, List.set_cons_succ]
            refine till_last (by kernel_rfl) (by kernel_rfl) rfl (fun K hK => ?_)
            obtain ⟨q1, q5⟩ := HKU.out w5 HO5.out.below
            go_simp
            refine hK.out _ _ ?_
            refine NoPanic.normal ?_
            clear hK K hHeld q1 q5
            go_wp2
            go_ret
            exact HEND.out w5 a5 c5 HO5.out
          refine AllTill.cons rfl (fun K hK => ?_) AllTill.nil
          refine step_build_ver rfl (.tmp 67) rfl V HVK.out rfl ?_
          refine hK.out _ _ ?_ (fun hHeld2 => ?_)
          · exact hHeld.alloc hHeld.size _
          clear hK K hHeld
          have hHeld := hHeld2
          clear hHeld2
          change wpTill _ _ _ _ _ _ _ _ (Act.put _ (some 68) _) _
          simp only [Act.put, List.setIfInBounds_toArray, List.set_cons_zero, List.set_cons_succ]
          refine till_ready (rs := [1]) (by kernel_rfl) (by simp) ?_
          refine AllTill.cons rfl (fun K hK => ?_) AllTill.nil
          go_simp
          refine hK.out _ _ ?_ (fun hHeld2 => ?_)
          · exact hHeld.alloc hHeld.size _
          clear hK K hHeld
          have hHeld := hHeld2
          clear hHeld2
          refine till_ready (rs := [8]) (by kernel_rfl) (by simp) ?_
          refine AllTill.cons rfl (fun K hK => ?_) AllTill.nil
          refine step_own verEl (w0 := U) rfl (.tmp 59) (.tmp 65) rfl _ 0 [] AA rfl (own_behind 127 20 U _) _ _ _ rfl LA.out (S1.out _ (own_behind 127 20 U _).below) O1.out N1.out J (Nat.zero_add _) (by omega) AA (List.nil_append _) ?_
          intro a3 c3 w3 h1 h2
          have HO3 : Hid (OwnB 127 20 U w3 (.slice a3 J c3) J AA) := h1
          have HX3 : Hid (Lies w3 (some ⟨U.heap.size, 0, none⟩) (encV V)) := (made_ahead U 127 127 #[] _ _ _).step (v' := .slice none 0 0) h2
          clear h1 h2
          refine hK.out _ _ ?_ (fun hHeld2 => ?_)
          · exact HO3.out.below
          clear hK K hHeld
          have hHeld := hHeld2
          clear hHeld2
          change wpTill _ _ _ _ _ _ _ _ (Act.put _ (some 66) _) _
          simp only [Act.put, List.setIfInBounds_toArray, List.set_cons_zero, List.set_cons_succ]
          refine till_ready (rs := [11]) (by kernel_rfl) (by simp) ?_
          refine AllTill.cons rfl (fun K hK => ?_) AllTill.nil
          refine step_own verEl (w0 := U) rfl (.tmp 66) (.tmp 68) rfl _ J AA (encV V) rfl (HO3.out) _ _ _ rfl HLV.out (HX3.out) OV.out (fun h => by cases h) (J + 1) rfl (by omega) (AA ++ encV V) rfl ?_
          intro a4 c4 w4 h1 h2
          have HO4 : Hid (OwnB 127 20 U w4 (.slice a4 (J + 1) c4) (J + 1) (AA ++ encV V)) := h1
          clear h1 h2 HO3
          refine hK.out _ _ ?_ (fun hHeld2 => ?_)
          · exact HO4.out.below
          clear hK K hHeld
          have hHeld := hHeld2
          clear hHeld2
          change wpTill _ _ _ _ _ _ _ _ (Act.put _ (some 69) _) _
          simp only [Act.put, List.setIfInBounds_toArray, List.set_cons_zero, List.set_cons_succ]
          refine till_ready (rs := [18]) (by kernel_rfl) (by simp) ?_
          refine AllTill.cons rfl (fun K hK => ?_) AllTill.nil
          refine step_own verEl (w0 := U) rfl (.tmp 69) (.tmp 75) rfl _ (J + 1) (AA ++ encV V) BB rfl HO4.out _ _ _ rfl LB.out (S2.out _ HO4.out.below) O2.out N2.out (J + 1 + (N - J)) rfl (by omega) (AA ++ encV V ++ BB) rfl ?_
          intro a5 c5 w5 h1 h2
          have HO5 : Hid (OwnB 127 20 U w5 (.slice a5 (J + 1 + (N - J)) c5) (J + 1 + (N - J)) (AA ++ encV V ++ BB)) := h1
          clear h1 h2 HO4
          refine hK.out _ _ ?_ (fun hHeld2 => ?_)
          · exact HO5.out.below
          clear hK K hHeld
          have hHeld := hHeld2
          clear hHeld2
          change wpTill _ _ _ _ _ _ _ _ (Act.put _ (some 76) _) _
          simp only [Act.put, List.setIfInBounds_toArray, List.set_cons_zero, List.set_cons_succ]
          refine till_take (i := 19) (v := ?_) 20 (by kernel_rfl) (Or.inr (by kernel_rfl)) (by kernel_rfl) rfl (by kernel_rfl) (by kernel_rfl) (by kernel_rfl) (fun _ _ _ h => h) (Or.inl ⟨by rfl, ?_⟩) hHeld ?_
          rotate_left
          · intro u hSu
            (go_simp) <;> (with_reducible rfl)
          change wpTill _ _ _ _ _ _ _ _ (Act.put _ (some 77) _) _
          simp only [Act.put, List.setIfInBounds_toArray, List.set_cons_zero, List.set_cons_succ]
          refine till_take (i := 20) (v := ?_) 20 (by kernel_rfl) (Or.inl rfl) (by kernel_rfl) rfl (by kernel_rfl) (by kernel_rfl) (by kernel_rfl) (fun _ _ _ h => h) (Or.inl ⟨by rfl, ?_⟩) hHeld ?_
          rotate_left
          · intro u hSu
            (go_simp) <;> (with_reducible rfl)
          change wpTill _ _ _ _ _ _ _ _ (Act.put _ (some 78) _) _
          simp only [Act.put, List.setIfInBounds_toArray, List.set_cons_zero, List.set_cons_succ]
          refine till_last (by kernel_rfl) (by kernel_rfl) rfl (fun K hK => ?_)
          obtain ⟨q1, q5⟩ := HKU.out w5 HO5.out.below
          go_simp
          refine hK.out _ _ ?_
          refine NoPanic.normal ?_
          clear hK K hHeld q1 q5
          go_wp2
          go_ret
          exact HEND.out w5 a5 c5 HO5.out
end Go.Proofs.YtileidbdmpeciaaGreat
