/-
  How many keys there would be (package part: countKeys, addKeys).
-/
import Derived.Test.YtileidbdmpeciaaGreatAu64
import Derived.Test.YtileidbdmpeciaaGreatAu75
import Derived.Test.YtileidbdmpeciaaGreatStoC5
import Derived.Test.YtileidbdmpeciaaGreatAu60
import Derived.Test.YtileidbdmpeciaaGreatAu48
import Derived.Test.YtileidbdmpeciaaGreatAu86
namespace Go.Proofs.YtileidbdmpeciaaGreat
open Go.RowKit
set_option linter.unusedVariables false
set_option linter.unusedSimpArgs false

/-- A set's keys may be listed in another order, and more than once. -/
theorem KSet.num {u : World} {m c : Nat} {l l2 : List (List Int)} (h : KSet u m c l) (h2 : l2.Nodup) (hm : ∀ k, k ∈ l2 ↔ k ∈ l) : c = l2.length := by
  obtain ⟨D, h1, h3, h4, h5⟩ := h
  have hk : KSet u m c l2 := ⟨D, h1, h3, fun k hk => h4 k ((hm k).1 hk), fun x => by
    rw [h5]
    constructor
    · rintro ⟨k, hk, e⟩; exact ⟨k, (hm k).2 hk, e⟩
    · rintro ⟨k, hk, e⟩; exact ⟨k, (hm k).1 hk, e⟩⟩
  exact hk.count.2 h2
/-- A set's block holds no cells. -/
theorem KSet.off {u : World} {m c : Nat} {l : List (List Int)} (h : KSet u m c l) {b o : Nat} {v : Value} (hc : u.cell? ⟨b, o, none⟩ = some v) : b ≠ m := by
  rintro rfl
  obtain ⟨D, ⟨es, clock, h1, _⟩, _⟩ := h
  unfold World.cell? at hc
  simp only at hc
  rw [h1] at hc
  cases hc
/-- What a call that fills a set leaves. -/
structure KFill (w w' : World) (m c : Nat) (l : List (List Int)) : Prop where
  set : KSet w' m c l
  chg : Chg w w' (fun k => k = m)
theorem KFill.past {w w' v : World} {m c : Nat} {l : List (List Int)} (h : KFill w w' m c l) (hb : Below w'.heap.size w' v) : KFill w v m c l := ⟨h.set.past hb, h.chg.trans (Chg.of_below hb _) (fun _ _ x => x)⟩
theorem KFill.turn {w w' v : World} {m c c' : Nat} {l l' : List (List Int)} (h : KFill w w' m c l) (k : KSet v m c' l') (ht : w'.mapTurned v m) : KFill w v m c' l' := ⟨k, h.chg.trans (turned_chg ht (X := fun k => k = m) rfl) (fun _ _ x => x)⟩
theorem KFill.then {w w' v : World} {m c c' : Nat} {l l' : List (List Int)} (h : KFill w w' m c l) (k : KFill w' v m c' l') : KFill w v m c' l' := ⟨k.set, h.chg.trans k.chg (fun _ _ x => x)⟩
theorem wrt_keptF {w u : World} {b o m c : Nat} {L : List (List Int)} {W : Wrt} (h : WrtAt w b o W) (hk : Ky W.k) (hs : KSet w m c L) (hc : Chg w u (fun k => k = m)) : WrtAt u b o W := by
  have hm : b ≠ m := hs.off ((h.key hk).cell 0 (by omega))
  refine ⟨lies_of fun j v hv => ?_⟩
  rw [cell_kept (hc.block b (h.lt hk) hm)]
  exact h.lies.at j v hv
theorem wrts_keptF {w u : World} {a : Option Addr} {l : List Wrt} {m c : Nat} {L : List (List Int)} (h : WrtsAt w a l) (hs : KSet w m c L) (hc : Chg w u (fun k => k = m)) : WrtsAt u a l := h.keptP (fun hl b o e => by
  obtain ⟨W, r, rfl⟩ := List.exists_cons_of_ne_nil hl
  obtain ⟨b2, o2, e2, hwa, hwo⟩ := h.wrt (i := 0) (W := W) rfl
  rw [e] at e2
  injection e2 with e2
  injection e2 with e2 e3
  subst e2
  exact hc.block b (hwa.lt hwo.key) (hs.off ((hwa.key hwo.key).cell 0 (by omega))))
theorem key_keptF {w u : World} {b o m c : Nat} {L : List (List Int)} {k : List Int} (h : KeyAt w b o k) (hk : Ky k) (hs : KSet w m c L) (hc : Chg w u (fun k => k = m)) : KeyAt u b o k := by
  have hm : b ≠ m := hs.off (h.cell 0 (by omega))
  exact ⟨fun i hi => by rw [cell_kept (hc.block b h.lt hm)]; exact h.cell i hi⟩
set_option maxHeartbeats 4000000 in
theorem paddkeys_any (m c : Nat) (l0 : List (List Int)) (a : Option Addr) (N cap : Nat) (l : List Wrt) (w : World) (h : KSet w m c l0) (hl : l.length = N) (hc : N ≤ cap) (hN : N ≤ 20000) (hcs : c ≤ 100000) (hw : WrtsAt w a l) :
    Calls Tryz.prog 88 #[.map (some m), .slice a N cap] w fun e w' => (∃ v, e = .returned v) ∧ ∃ c', c' ≤ c + N ∧ KFill w w' m c' (l0 ++ l.map (fun W => W.k)) := by
  have HL : Hid (l.length = N) := hl
  have HA : Hid (WrtsAt w a l) := hw
  have HK0 : Hid (KSet w m c l0) := h
  have HK : Hid (KFill w w m c l0) := ⟨h, Chg.refl _ _⟩
  clear hl hw h
  go_enter Tryz.func88, Tryz.ntmps88
  go_wp2
  go_loopw [8] (fun iv wr => ∃ i c' : Nat, iv = .int .i64 i ∧ i ≤ N ∧ c' ≤ c + i ∧ Hid (KFill w wr m c' (l0 ++ (l.take i).map (fun W => W.k)))) (fun iv _ => N - (intOf iv).toNat)
  case atStart => exact ⟨0, c, rfl, Nat.zero_le _, Nat.le_refl _, by simpa using HK⟩
  case round =>
    obtain ⟨i, c', rfl, hi, hci, HS⟩ := hrel
    have hi0 : (0 : Int) ≤ (i : Int) := by omega
    by_cases hlt : i < N
    · have h1 : (i : Int) < (N : Int) := by omega
      obtain ⟨W, hW⟩ : ∃ W, l[i]? = some W := ⟨_, List.getElem?_eq_getElem (by rw [HL.out]; exact hlt)⟩
      obtain ⟨b, o, rfl, hwa, hwo⟩ := HA.out.wrt hW
      have HWA : Hid (WrtAt wr b (o + i * 18) W) := wrt_keptF hwa hwo.key HK0.out HS.out.chg
      have KW : Hid (Ky W.k) := hwo.key
      have HT : Hid (l0 ++ (l.take (i + 1)).map (fun W => W.k) = (l0 ++ (l.take i).map (fun W => W.k)) ++ [W.k]) := by show _ = _; rw [take_map_next hW, List.append_assoc]
      have hmine := WrtMine.made wr 80 zeroW zeroW_ky
      obtain ⟨hk1, hb1, hz1⟩ := laid_wrt wr 80 (W := W) hwo.key
      rw [zeroW_cells] at hmine hk1 hb1 hz1
      have HMI : Hid _ := hmine
      have HK1 : Hid _ := hk1
      have H1 : Hid (KFill w _ m c' (l0 ++ (l.take i).map (fun W => W.k))) := HS.out.past hb1
      clear hmine hk1 hb1 hz1 hwa hwo hW
      go_wp2_with (first
        | ((with_reducible show wpList _ _ _ (Oper.mk (some 11) _ _ _ _ _ :: _) _ _); refine wpList_load_wrt 11 (by rfl) (by rfl) _ (by rfl) b (o + i * 18) (by rfl) W KW.out HWA.out ?_)
        | (have hgo := HMI.out; clear hgo; refine wpList_store_wrt (.tmp 5) (by rfl) _ (by rfl) wr.heap.size 0 zeroW W (by rfl) (by rfl) KW.out HMI.out ?_; intro u2 hu; rw [← hu] at HK1 H1; clear hu HMI HWA)
        | ((with_reducible show wpList _ _ _ (Oper.mk (some 14) _ _ _ _ _ :: _) _ _); refine wpList_load_keyD 14 (by rfl) (by rfl) _ (by rfl) wr.heap.size 0 (by rfl) W.k KW.out (HK1.out.at_.key KW.out) ?_)
        | (at_mapUpdate; refine wpList_store_set (by rfl) _ _ _ 144 (by rfl) 145 Tryz.underlying144 m c' (l0 ++ (l.take i).map (fun W => W.k)) (by rfl) H1.out.set (by omega) W.k KW.out (by rfl) (by rfl) ?_; intro u3 c2 hset3 hc3 htn; have H4 : Hid (KFill w u3 m c2 (l0 ++ (l.take (i + 1)).map (fun W => W.k))) := (by show KFill _ _ _ _ _; rw [HT.out]; exact H1.out.turn hset3 htn); have H5 : Hid (c2 ≤ c' + 1) := hc3; clear hset3 hc3 htn H1 HK1))
      go_roundw
      case rel => exact ⟨i + 1, c2, by go_num, by omega, by have := H5.out; omega, H4⟩
      case measure => simp [intOf]; omega
    · obtain rfl : i = N := by omega
      have HT : Hid (l.take i = l) := List.take_of_length_le (by rw [HL.out]; exact Nat.le_refl _)
      go_wp2
      go_end0
      refine ⟨⟨_, rfl⟩, c', hci, ?_⟩
      have := HS.out
      rw [HT.out] at this
      exact this
theorem take_keys_next {l : List (List Int)} {i : Nat} {k : List Int} (h : l[i]? = some k) : l.take (i + 1) = l.take i ++ [k] := by rw [List.take_add_one, h]; rfl
theorem rising_nodupP : ∀ {l : List (List Int)}, Rising l → l.Nodup
  | [], _ => List.nodup_nil
  | a :: r, h => List.nodup_cons.2 ⟨fun hm => by have := Rising.head h a hm; rw [lexC_self] at this; omega, rising_nodupP h.tail⟩
theorem sortK_num {u : World} {m c : Nat} {l l2 : List (List Int)} (h : KSet u m c l) (hm : ∀ k, k ∈ l2 ↔ k ∈ l) : c = (sortK l2).length :=
  h.num (rising_nodupP (sortK_facts l2).1) (fun k => ((sortK_facts l2).2.1 k).trans (hm k))
theorem KFill.below {w V u : World} {m c : Nat} {l : List (List Int)} (h : KFill V u m c l) (hV : Below w.heap.size w V) (hm : w.heap.size ≤ m) : Below w.heap.size w u := hV.trans (h.chg.below hV.size (fun k e => by rw [e]; exact hm))
theorem keysT_one (L : List EntM) {i : Nat} {x : EntM} (h : L[i]? = some x) : (keysT (ents (L.take i))).length + x.e.l.length ≤ (keysT (ents L)).length := by
  have h1 := keysT_pre L (i + 1)
  rw [keysT_next h, List.length_append, List.length_map] at h1
  exact h1
set_option maxHeartbeats 8000000 in
set_option maxRecDepth 4000 in
theorem pcount_any {p s tb mm : Nat} {P : PSt} {M : List EntM} {XS XT : Foot} (a : Option Addr) (N cap : Nat) (l : List Wrt) (w : World) (h : ParI w p s tb mm P M XS XT) (hl : l.length = N) (hc : N ≤ cap) (hN : N ≤ 1000) (hw : WrtsAt w a l) (hKV : (keysV P.S).length ≤ 1000) (hKT : (keysT P.T).length ≤ 1000) :
    Calls Tryz.prog 45 #[.pointer (some ⟨p, 0, none⟩), .slice a N cap] w fun e w' => e = .returned (.int .i64 ((sortK (keysV P.S ++ l.map (fun W => W.k) ++ keysT P.T)).length : Nat)) ∧ Below w.heap.size w w' := by
  have hmm := @run_makeMap Tryz.prog
  obtain ⟨V, hV⟩ : ∃ V, V = w.alloc (.map #[] 0) := ⟨_, rfl⟩
  have HBV : Hid (Below w.heap.size w V) := by rw [hV]; exact (Below.refl _ _).alloc (Nat.le_refl _) _
  have HS0 : Hid (KFill V V w.heap.size 0 []) := ⟨by rw [hV]; exact KSet.made w, Chg.refl _ _⟩
  obtain ⟨KV, hKVe⟩ : ∃ K, K = keysV P.S := ⟨_, rfl⟩
  obtain ⟨NK, hNK⟩ : ∃ n, n = KV.length := ⟨_, rfl⟩
  have hNK9 : NK ≤ 1000 := by rw [hNK, hKVe]; exact hKV
  have HNK : Hid (KV.length = NK) := hNK.symm
  have HQ : Hid (∀ u, Below w.heap.size w u → u.cell? ⟨p, 0, none⟩ = some (.pointer (some ⟨s, 0, none⟩)) ∧ u.cell? ⟨p, 1, none⟩ = some (.pointer (some ⟨tb, 0, none⟩))) := fun u hu => ⟨(h.past hu).c0, (h.past hu).c1⟩
  have CK : Hid (∀ u, Below w.heap.size w u → Calls Tryz.prog 79 #[.pointer (some ⟨s, 0, none⟩)] u fun e w' => (∃ a' cap', e = .returned (.slice a' NK cap') ∧ KeysAt w' a' KV ∧ NK ≤ cap') ∧ Below u.heap.size u w') := fun u hu => by rw [hNK, hKVe]; exact skeys_any s P.S XS u (h.past hu).sto
  obtain ⟨NM, hNM⟩ : ∃ n, n = M.length := ⟨_, rfl⟩
  have hNM9 : NM ≤ 100 := by rw [hNM]; exact h.tab.few
  have CA : Hid (∀ u, Below w.heap.size w u → Calls Tryz.prog 59 #[.pointer (some ⟨tb, 0, none⟩)] u fun e w' => (∃ la lc L, e = .returned (.slice la NM lc) ∧ AllOf w' u.heap.size (.slice la NM lc) L P.T) ∧ Below u.heap.size u w') := fun u hu => by rw [hNM, ← h.is]; exact pall_any tb M XT u (h.past hu).tab
  have HWA : Hid (WrtsAt w a l) := hw
  have HL : Hid (l.length = N) := hl
  have HKT : Hid ((keysT P.T).length ≤ 1000) := hKT
  obtain ⟨R, hR⟩ : ∃ R, R = (sortK (keysV P.S ++ l.map (fun W => W.k) ++ keysT P.T)).length := ⟨_, rfl⟩
  rw [← hR]
  have HR : Hid (∀ u c, KSet u w.heap.size c ((KV ++ keysT P.T) ++ l.map (fun W => W.k)) → c = R) := fun u c hs => by
    rw [hR]
    refine sortK_num hs (fun k => ?_)
    rw [hKVe]
    simp only [List.mem_append]
    constructor
    · rintro ((e | e) | e)
      · exact .inl (.inl e)
      · exact .inr e
      · exact .inl (.inr e)
    · rintro ((e | e) | e)
      · exact .inl (.inl e)
      · exact .inr e
      · exact .inl (.inr e)
  clear h hw hl hKV hKT hR hNK hNM hKVe
  go_enter Tryz.func45, Tryz.ntmps45
  have q0 : (w.alloc (.map #[] 0)).cell? ⟨p, 0, none⟩ = some (.pointer (some ⟨s, 0, none⟩)) := by rw [← hV]; exact (HQ.out V HBV.out).1
  have HV : Hid (w.alloc (.map #[] 0) = V) := hV.symm
  clear hV
  go_wp2_with (first
    | (go_at_call 79; rw [HV.out]; refine (CK.out _ HBV.out).mono ?_; rintro e w1 ⟨⟨ka, kp, rfl, hka, hkp⟩, hb⟩; have HKA : Hid (KeysAt w1 ka KV) := hka; have F1 : Hid (KFill V w1 w.heap.size 0 []) := HS0.out.past hb; clear hb hka q0))
  have HB1 : Hid (Below w.heap.size w w1) := F1.out.below HBV.out (Nat.le_refl _)
  have HS1 : Hid (KFill w1 w1 w.heap.size 0 (KV.take 0)) := ⟨F1.out.set, Chg.refl _ _⟩
  go_loopw [17] (fun iv wr => ∃ i c : Nat, iv = .int .i64 i ∧ i ≤ NK ∧ c ≤ i ∧ Hid (KFill w1 wr w.heap.size c (KV.take i))) (fun iv _ => NK - (intOf iv).toNat)
  case atStart => exact ⟨0, 0, rfl, Nat.zero_le _, Nat.le_refl _, HS1⟩
  case round =>
    obtain ⟨i, c, rfl, hi, hci, HF⟩ := hrel
    have hi0 : (0 : Int) ≤ (i : Int) := by omega
    by_cases hlt : i < NK
    · have h1 : (i : Int) < (NK : Int) := by omega
      obtain ⟨kb, ko, rfl, hkat, hky⟩ := HKA.out.key (i := i) (by rw [HNK.out]; exact hlt)
      obtain ⟨k, hk⟩ : ∃ k, k = KV.getD i [] := ⟨_, rfl⟩
      rw [← hk] at hkat hky
      have KK : Hid (Ky k) := hky
      have HKAT : Hid (KeyAt wr kb (ko + i * 16) k) := key_keptF hkat hky F1.out.set HF.out.chg
      have HT : Hid (KV.take (i + 1) = KV.take i ++ [k]) := by
        show _ = _
        refine take_keys_next ?_
        have hl : i < KV.length := by rw [HNK.out]; exact hlt
        rw [hk, List.getD_eq_getElem?_getD, List.getElem?_eq_getElem hl]
        rfl
      have hmine := KeyMine.made wr 38 zeroK zeroK_ky
      obtain ⟨hk1, hb2, hz1⟩ := laid_key wr 38 hky
      rw [zero_cells] at hmine hk1 hb2 hz1
      have HMI : Hid _ := hmine
      have HK1 : Hid _ := hk1
      have H2 : Hid (KFill w1 _ w.heap.size c (KV.take i)) := HF.out.past hb2
      clear hmine hk1 hb2 hz1 hkat hky hk
      go_wp2_with (first
        | ((with_reducible show wpList _ _ _ (Oper.mk (some 20) _ _ _ _ _ :: _) _ _); refine wpList_load_keyD 20 (by rfl) (by rfl) _ (by rfl) kb (ko + i * 16) (by rfl) k KK.out HKAT.out ?_)
        | (have hgo := HMI.out; clear hgo; refine wpList_store_keyU (by rfl) _ _ (by rfl) wr.heap.size 0 zeroK k (by rfl) (by rfl) KK.out HMI.out ?_; intro u2 hu; rw [← hu] at HK1 H2; clear hu HMI HKAT)
        | ((with_reducible show wpList _ _ _ (Oper.mk (some 22) _ _ _ _ _ :: _) _ _); refine wpList_load_keyD 22 (by rfl) (by rfl) _ (by rfl) wr.heap.size 0 (by rfl) k KK.out HK1.out.lies ?_)
        | (at_mapUpdate; refine wpList_store_set (by rfl) _ _ _ 144 (by rfl) 145 Tryz.underlying144 w.heap.size c (KV.take i) (by rfl) H2.out.set (by omega) k KK.out (by rfl) (by rfl) ?_; intro u3 c2 hset3 hc3 htn; have H4 : Hid (KFill w1 u3 w.heap.size c2 (KV.take (i + 1))) := (by show KFill _ _ _ _ _; rw [HT.out]; exact H2.out.turn hset3 htn); have H5 : Hid (c2 ≤ c + 1) := hc3; clear hset3 hc3 htn H2 HK1))
      go_roundw
      case rel => exact ⟨i + 1, c2, by go_num, by omega, by have := H5.out; omega, H4⟩
      case measure => simp [intOf]; omega
    · obtain rfl : i = NK := by omega
      have HT : Hid (KV.take i = KV) := List.take_of_length_le (by rw [HNK.out]; exact Nat.le_refl _)
      have HF2 : Hid (KFill V wr w.heap.size c KV) := by have := F1.out.then HF.out; rw [HT.out] at this; exact this
      have HB2 : Hid (Below w.heap.size w wr) := HF2.out.below HBV.out (Nat.le_refl _)
      obtain ⟨_, q1⟩ := HQ.out wr HB2.out
      clear HF
      go_wp2_with (first
        | (go_at_call 59; refine (CA.out _ HB2.out).mono ?_; rintro e w3 ⟨⟨la, lc, L, rfl, hA⟩, hb⟩; have HAL : Hid (AllOf w3 wr.heap.size (.slice la NM lc) L P.T) := hA; have F3 : Hid (KFill V w3 w.heap.size c KV) := HF2.out.past hb; clear hb hA q1))
      obtain ⟨hNL, hNc, hel⟩ := HAL.out.open
      have HLN : Hid (NM = L.length) := hNL
      have HEL : Hid (∀ i y, L[i]? = some y → ∃ g, la = some ⟨g, 0, none⟩ ∧ Hid (∀ v, Below w3.heap.size w3 v → EntAt v g (i * 6) y ∧ EntW v y)) := hel
      have HIS : Hid (ents L = P.T) := HAL.out.is
      have HB3 : Hid (Below w.heap.size w w3) := F3.out.below HBV.out (Nat.le_refl _)
      have HS3 : Hid (KFill w3 w3 w.heap.size c (KV ++ keysT (ents (L.take 0)))) := ⟨by have := F3.out.set; simpa [keysT, ents] using this, Chg.refl _ _⟩
      have HKL : Hid ((keysT (ents L)).length ≤ 1000) := by show _ ≤ _; rw [HIS.out]; exact HKT.out
      clear hel hNL HAL HF2
      go_loopw [31] (fun iv wr => ∃ j c : Nat, iv = .int .i64 j ∧ j ≤ NM ∧ c ≤ i + (keysT (ents (L.take j))).length ∧ Hid (KFill w3 wr w.heap.size c (KV ++ keysT (ents (L.take j))))) (fun iv _ => NM - (intOf iv).toNat)
      case atStart => exact ⟨0, c, rfl, Nat.zero_le _, by omega, HS3⟩
      case round =>
        obtain ⟨j, c1, rfl, hj, hcj, HG⟩ := hrel
        have hj0 : (0 : Int) ≤ (j : Int) := by omega
        have hpre := keysT_pre L j
        have hc9 : c1 ≤ 100000 := by have := HKL.out; omega
        by_cases hjl : j < NM
        · have h2 : (j : Int) < (NM : Int) := by omega
          obtain ⟨x, hx⟩ : ∃ x, L[j]? = some x := ⟨_, List.getElem?_eq_getElem (by rw [← HLN.out]; exact hjl)⟩
          obtain ⟨g, hag, hG⟩ := HEL.out j x hx
          subst hag
          have hx3 := hG.out w3 (Below.refl _ _)
          have FE : Hid (EntAt wr g (j * 6) x) := hx3.1.kept (HG.out.chg.block g hx3.1.lt (F3.out.set.off hx3.1.cells.1))
          have HWX : Hid (EntW wr x) := ⟨wrts_keptF hx3.2.wr F3.out.set HG.out.chg, hx3.2.room, hx3.2.few, hx3.2.ok⟩
          have HXI : Hid (L[j]? = some x) := hx
          have hone := keysT_one L hx
          have HKN : Hid (x.e.l.length ≤ 1000) := by show _ ≤ _; have := HKL.out; omega
          have hmi := EntMine.made wr 31 zeroE
          rw [zeroE_cells] at hmi
          have HMI : Hid _ := hmi
          obtain ⟨NX, hNX⟩ : ∃ n, n = x.e.l.length := ⟨_, rfl⟩
          obtain ⟨xa, hxa⟩ : ∃ n, n = x.a := ⟨_, rfl⟩
          obtain ⟨xc, hxc⟩ : ∃ n, n = x.c := ⟨_, rfl⟩
          have CAK : Hid (∀ u, Below wr.heap.size wr u → Calls Tryz.prog 88 #[.map (some w.heap.size), .slice xa NX xc] u fun e w' => (∃ v, e = .returned v) ∧ ∃ c', c' ≤ c1 + NX ∧ KFill w3 w' w.heap.size c' (KV ++ keysT (ents (L.take (j + 1))))) := fun u hu => by
            have hs := HG.out.past hu
            have hwx := HWX.out.past hu
            rw [hxa, hxc, hNX]
            refine (paddkeys_any w.heap.size c1 _ x.a x.e.l.length x.c x.e.l u hs.set rfl hwx.room (by have := HKN.out; omega) hc9 hwx.wr).mono ?_
            rintro e w' ⟨hv, c', hc', hf⟩
            refine ⟨hv, c', hc', ?_⟩
            rw [keysT_next HXI.out, ← List.append_assoc]
            exact hs.then hf
          have HX0 : Hid (∀ u b, EntMine u b x → u.cell? ⟨b, 5, none⟩ = some (.slice xa NX xc)) := fun u b hm => by
            rw [hxa, hxc, hNX]
            have := hm.at_.cells.2.2.2.2.2
            rwa [Nat.zero_add] at this
          have HNX : Hid (x.e.l.length = NX) := hNX.symm
          clear hx hG hx3 hmi hone hNX hxa hxc
          go_wp2_with (first
            | ((with_reducible show wpList _ _ _ (Oper.mk (some 34) _ _ _ _ _ :: _) _ _); refine wpList_load_pent 34 (by rfl) (by rfl) _ (by rfl) g (j * 6) (by rfl) x FE.out ?_)
            | (have hgo := HMI.out; clear hgo; refine wpList_store_pent (.tmp 9) (by rfl) _ (by rfl) wr.heap.size zeroE x (by rfl) (by rfl) HMI.out ?_; intro u2 hu; have HX2 : Hid (EntMine u2 wr.heap.size x) := hu ▸ HMI.out.store; have HB4 : Hid (Below wr.heap.size wr u2) := hu ▸ below_cells (Nat.le_refl _) ((Below.refl _ _).alloc (Nat.le_refl _) _); have z5 := HX0.out u2 wr.heap.size HX2.out; clear hu HMI)
            | (have hgo := HB4.out; clear hgo; go_at_call 88; refine (CAK.out _ HB4.out).mono ?_; rintro e u4 ⟨⟨v4, rfl⟩, c2, hc2, hf⟩; have H4 : Hid (KFill w3 u4 w.heap.size c2 (KV ++ keysT (ents (L.take (j + 1))))) := hf; have H5 : Hid (c2 ≤ c1 + NX) := hc2; clear hf hc2 z5))
          go_roundw
          case rel => exact ⟨j + 1, c2, by go_num, by omega, by rw [keysT_next HXI.out, List.length_append, List.length_map, HNX.out]; have := H5.out; omega, H4⟩
          case measure => simp [intOf]; omega
        · obtain rfl : j = NM := by omega
          have HT2 : Hid (keysT (ents (L.take j)) = keysT P.T) := by show _ = _; rw [List.take_of_length_le (by rw [← HLN.out]; exact Nat.le_refl _), HIS.out]
          have HF4 : Hid (KFill V wr w.heap.size c1 (KV ++ keysT P.T)) := by have := F3.out.then HG.out; rw [HT2.out] at this; exact this
          have HB4 : Hid (Below w.heap.size w wr) := HF4.out.below HBV.out (Nat.le_refl _)
          have CAK : Hid (Calls Tryz.prog 88 #[.map (some w.heap.size), .slice a N cap] wr fun e w' => (∃ v, e = .returned v) ∧ ∃ c', KFill V w' w.heap.size c' ((KV ++ keysT P.T) ++ l.map (fun W => W.k))) := by
            refine (paddkeys_any w.heap.size c1 _ a N cap l wr HF4.out.set HL.out hc (by omega) hc9 (HWA.out.past HB4.out)).mono ?_
            rintro e w' ⟨hv, c', _, hf⟩
            exact ⟨hv, c', HF4.out.then hf⟩
          go_wp2_with (first
            | (go_at_call 88; refine CAK.out.mono ?_; rintro e u5 ⟨⟨v5, rfl⟩, c5, hf⟩; have H5 : Hid (KFill V u5 w.heap.size c5 ((KV ++ keysT P.T) ++ l.map (fun W => W.k))) := hf; have hlen := fun ty => hf.set.len Tryz.underlying144 ty; clear hf)
            | ((with_reducible show wpList _ _ _ (Oper.mk (some 44) _ _ _ _ _ :: _) _ _); refine wpList_len_is 44 (by rfl) (by rfl) _ 144 (by rfl) w.heap.size _ (by rfl) hlen ?_))
          go_ret
          exact ⟨by rw [HR.out u5 c5 H5.out.set]; rfl, H5.out.below HBV.out (Nat.le_refl _)⟩
end Go.Proofs.YtileidbdmpeciaaGreat
