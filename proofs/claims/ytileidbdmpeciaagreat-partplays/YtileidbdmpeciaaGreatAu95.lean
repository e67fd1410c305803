/-
  How many keys there would be (package part: countKeys, addKeys).
  What the landed parts answer and leave: Prepare (package part).
-/
import Derived.Test.YtileidbdmpeciaaGreatAu87
import Derived.Test.YtileidbdmpeciaaGreatAu112
import Derived.Test.YtileidbdmpeciaaGreatAu101
import Derived.Test.YtileidbdmpeciaaGreatAu108
import Derived.Test.YtileidbdmpeciaaGreatAu98
import Derived.Test.YtileidbdmpeciaaGreatAu102
import Derived.Test.YtileidbdmpeciaaGreatPaC5
namespace Go.Proofs.YtileidbdmpeciaaGreat
open Go.RowKit
set_option linter.unusedVariables false
set_option linter.unusedSimpArgs false

/-- A set's keys may be listed in another order, and more than once. -/
theorem KSet.num {u : World} {m c : Nat} {l l2 : List (List Int)} (h : KSet u m c l) (h2 : l2.Nodup) (hm : ∀ k, k ∈ l2 ↔ k ∈ l) : c = l2.length := by
  obtain ⟨D, h1, h3, h4, h5⟩ := h
  have hk : KSet u m c l2 := ⟨D, h1, h3, fun k hk => h4 k ((hm k).1 hk), fun x => by
    rw [h5]
    constructor
    · rintro ⟨k, hk, e⟩; exact ⟨k, (hm k).2 hk, e⟩
    · rintro ⟨k, hk, e⟩; exact ⟨k, (hm k).1 hk, e⟩⟩
  exact hk.count.2 h2
/-- A set's block holds no cells. -/
theorem KSet.off {u : World} {m c : Nat} {l : List (List Int)} (h : KSet u m c l) {b o : Nat} {v : Value} (hc : u.cell? ⟨b, o, none⟩ = some v) : b ≠ m := by
  rintro rfl
  obtain ⟨D, ⟨es, clock, h1, _⟩, _⟩ := h
  unfold World.cell? at hc
  simp only at hc
  rw [h1] at hc
  cases hc
/-- What a call that fills a set leaves. -/
structure KFill (w w' : World) (m c : Nat) (l : List (List Int)) : Prop where
  set : KSet w' m c l
  chg : Chg w w' (fun k => k = m)
theorem KFill.past {w w' v : World} {m c : Nat} {l : List (List Int)} (h : KFill w w' m c l) (hb : Below w'.heap.size w' v) : KFill w v m c l := ⟨h.set.past hb, h.chg.trans (Chg.of_below hb _) (fun _ _ x => x)⟩
theorem KFill.turn {w w' v : World} {m c c' : Nat} {l l' : List (List Int)} (h : KFill w w' m c l) (k : KSet v m c' l') (ht : w'.mapTurned v m) : KFill w v m c' l' := ⟨k, h.chg.trans (turned_chg ht (X := fun k => k = m) rfl) (fun _ _ x => x)⟩
theorem KFill.then {w w' v : World} {m c c' : Nat} {l l' : List (List Int)} (h : KFill w w' m c l) (k : KFill w' v m c' l') : KFill w v m c' l' := ⟨k.set, h.chg.trans k.chg (fun _ _ x => x)⟩
theorem wrt_keptF {w u : World} {b o m c : Nat} {L : List (List Int)} {W : Wrt} (h : WrtAt w b o W) (hk : Ky W.k) (hs : KSet w m c L) (hc : Chg w u (fun k => k = m)) : WrtAt u b o W := by
  have hm : b ≠ m := hs.off ((h.key hk).cell 0 (by omega))
  refine ⟨lies_of fun j v hv => ?_⟩
  rw [cell_kept (hc.block b (h.lt hk) hm)]
  exact h.lies.at j v hv
theorem wrts_keptF {w u : World} {a : Option Addr} {l : List Wrt} {m c : Nat} {L : List (List Int)} (h : WrtsAt w a l) (hs : KSet w m c L) (hc : Chg w u (fun k => k = m)) : WrtsAt u a l := h.keptP (fun hl b o e => by
  obtain ⟨W, r, rfl⟩ := List.exists_cons_of_ne_nil hl
  obtain ⟨b2, o2, e2, hwa, hwo⟩ := h.wrt (i := 0) (W := W) rfl
  rw [e] at e2
  injection e2 with e2
  injection e2 with e2 e3
  subst e2
  exact hc.block b (hwa.lt hwo.key) (hs.off ((hwa.key hwo.key).cell 0 (by omega))))
theorem key_keptF {w u : World} {b o m c : Nat} {L : List (List Int)} {k : List Int} (h : KeyAt w b o k) (hk : Ky k) (hs : KSet w m c L) (hc : Chg w u (fun k => k = m)) : KeyAt u b o k := by
  have hm : b ≠ m := hs.off (h.cell 0 (by omega))
  exact ⟨fun i hi => by rw [cell_kept (hc.block b h.lt hm)]; exact h.cell i hi⟩
set_option maxHeartbeats 4000000 in
theorem paddkeys_any (m c : Nat) (l0 : List (List Int)) (a : Option Addr) (N cap : Nat) (l : List Wrt) (w : World) (h : KSet w m c l0) (hl : l.length = N) (hc : N ≤ cap) (hN : N ≤ 20000) (hcs : c ≤ 100000) (hw : WrtsAt w a l) :
    Calls Tryz.prog 88 #[.map (some m), .slice a N cap] w fun e w' => (∃ v, e = .returned v) ∧ ∃ c', c' ≤ c + N ∧ KFill w w' m c' (l0 ++ l.map (fun W => W.k)) := by
  have HL : Hid (l.length = N) := hl
  have HA : Hid (WrtsAt w a l) := hw
  have HK0 : Hid (KSet w m c l0) := h
  have HK : Hid (KFill w w m c l0) := ⟨h, Chg.refl _ _⟩
  clear hl hw h
  go_enter Tryz.func88, Tryz.ntmps88
  go_wp2
  go_loopw [8] (fun iv wr => ∃ i c' : Nat, iv = .int .i64 i ∧ i ≤ N ∧ c' ≤ c + i ∧ Hid (KFill w wr m c' (l0 ++ (l.take i).map (fun W => W.k)))) (fun iv _ => N - (intOf iv).toNat)
  case atStart => exact ⟨0, c, rfl, Nat.zero_le _, Nat.le_refl _, by simpa using HK⟩
  case round =>
    obtain ⟨i, c', rfl, hi, hci, HS⟩ := hrel
    have hi0 : (0 : Int) ≤ (i : Int) := by omega
    by_cases hlt : i < N
    · have h1 : (i : Int) < (N : Int) := by omega
      obtain ⟨W, hW⟩ : ∃ W, l[i]? = some W := ⟨_, List.getElem?_eq_getElem (by rw [HL.out]; exact hlt)⟩
      obtain ⟨b, o, rfl, hwa, hwo⟩ := HA.out.wrt hW
      have HWA : Hid (WrtAt wr b (o + i * 18) W) := wrt_keptF hwa hwo.key HK0.out HS.out.chg
      have KW : Hid (Ky W.k) := hwo.key
      have HT : Hid (l0 ++ (l.take (i + 1)).map (fun W => W.k) = (l0 ++ (l.take i).map (fun W => W.k)) ++ [W.k]) := by show _ = _; rw [take_map_next hW, List.append_assoc]
      have hmine := WrtMine.made wr 80 zeroW zeroW_ky
      obtain ⟨hk1, hb1, hz1⟩ := laid_wrt wr 80 (W := W) hwo.key
      rw [zeroW_cells] at hmine hk1 hb1 hz1
      have HMI : Hid _ := hmine
      have HK1 : Hid _ := hk1
      have H1 : Hid (KFill w _ m c' (l0 ++ (l.take i).map (fun W => W.k))) := HS.out.past hb1
      clear hmine hk1 hb1 hz1 hwa hwo hW
      go_wp2_with (first
        | ((with_reducible show wpList _ _ _ (Oper.mk (some 11) _ _ _ _ _ :: _) _ _); refine wpList_load_wrt 11 (by rfl) (by rfl) _ (by rfl) b (o + i * 18) (by rfl) W KW.out HWA.out ?_)
        | (have hgo := HMI.out; clear hgo; refine wpList_store_wrt (.tmp 5) (by rfl) _ (by rfl) wr.heap.size 0 zeroW W (by rfl) (by rfl) KW.out HMI.out ?_; intro u2 hu; rw [← hu] at HK1 H1; clear hu HMI HWA)
        | ((with_reducible show wpList _ _ _ (Oper.mk (some 14) _ _ _ _ _ :: _) _ _); refine wpList_load_keyD 14 (by rfl) (by rfl) _ (by rfl) wr.heap.size 0 (by rfl) W.k KW.out (HK1.out.at_.key KW.out) ?_)
        | (at_mapUpdate; refine wpList_store_set (by rfl) _ _ _ 144 (by rfl) 145 Tryz.underlying144 m c' (l0 ++ (l.take i).map (fun W => W.k)) (by rfl) H1.out.set (by omega) W.k KW.out (by rfl) (by rfl) ?_; intro u3 c2 hset3 hc3 htn; have H4 : Hid (KFill w u3 m c2 (l0 ++ (l.take (i + 1)).map (fun W => W.k))) := (by show KFill _ _ _ _ _; rw [HT.out]; exact H1.out.turn hset3 htn); have H5 : Hid (c2 ≤ c' + 1) := hc3; clear hset3 hc3 htn H1 HK1))
      go_roundw
      case rel => exact ⟨i + 1, c2, by go_num, by omega, by have := H5.out; omega, H4⟩
      case measure => simp [intOf]; omega
    · obtain rfl : i = N := by omega
      have HT : Hid (l.take i = l) := List.take_of_length_le (by rw [HL.out]; exact Nat.le_refl _)
      go_wp2
      go_end0
      refine ⟨⟨_, rfl⟩, c', hci, ?_⟩
      have := HS.out
      rw [HT.out] at this
      exact this
theorem take_keys_next {l : List (List Int)} {i : Nat} {k : List Int} (h : l[i]? = some k) : l.take (i + 1) = l.take i ++ [k] := by rw [List.take_add_one, h]; rfl
theorem rising_nodupP : ∀ {l : List (List Int)}, Rising l → l.Nodup
  | [], _ => List.nodup_nil
  | a :: r, h => List.nodup_cons.2 ⟨fun hm => by have := Rising.head h a hm; rw [lexC_self] at this; omega, rising_nodupP h.tail⟩
theorem sortK_num {u : World} {m c : Nat} {l l2 : List (List Int)} (h : KSet u m c l) (hm : ∀ k, k ∈ l2 ↔ k ∈ l) : c = (sortK l2).length :=
  h.num (rising_nodupP (sortK_facts l2).1) (fun k => ((sortK_facts l2).2.1 k).trans (hm k))
theorem KFill.below {w V u : World} {m c : Nat} {l : List (List Int)} (h : KFill V u m c l) (hV : Below w.heap.size w V) (hm : w.heap.size ≤ m) : Below w.heap.size w u := hV.trans (h.chg.below hV.size (fun k e => by rw [e]; exact hm))
theorem keysT_one (L : List EntM) {i : Nat} {x : EntM} (h : L[i]? = some x) : (keysT (ents (L.take i))).length + x.e.l.length ≤ (keysT (ents L)).length := by
  have h1 := keysT_pre L (i + 1)
  rw [keysT_next h, List.length_append, List.length_map] at h1
  exact h1
set_option maxHeartbeats 8000000 in
set_option maxRecDepth 4000 in
theorem pcount_any {p s tb mm : Nat} {P : PSt} {M : List EntM} {XS XT : Foot} (a : Option Addr) (N cap : Nat) (l : List Wrt) (w : World) (h : ParI w p s tb mm P M XS XT) (hl : l.length = N) (hc : N ≤ cap) (hN : N ≤ 1000) (hw : WrtsAt w a l) (hKV : (keysV P.S).length ≤ 1000) (hKT : (keysT P.T).length ≤ 1000) :
    Calls Tryz.prog 45 #[.pointer (some ⟨p, 0, none⟩), .slice a N cap] w fun e w' => e = .returned (.int .i64 ((sortK (keysV P.S ++ l.map (fun W => W.k) ++ keysT P.T)).length : Nat)) ∧ Below w.heap.size w w' := by
  have hmm := @run_makeMap Tryz.prog
  obtain ⟨V, hV⟩ : ∃ V, V = w.alloc (.map #[] 0) := ⟨_, rfl⟩
  have HBV : Hid (Below w.heap.size w V) := by rw [hV]; exact (Below.refl _ _).alloc (Nat.le_refl _) _
  have HS0 : Hid (KFill V V w.heap.size 0 []) := ⟨by rw [hV]; exact KSet.made w, Chg.refl _ _⟩
  obtain ⟨KV, hKVe⟩ : ∃ K, K = keysV P.S := ⟨_, rfl⟩
  obtain ⟨NK, hNK⟩ : ∃ n, n = KV.length := ⟨_, rfl⟩
  have hNK9 : NK ≤ 1000 := by rw [hNK, hKVe]; exact hKV
  have HNK : Hid (KV.length = NK) := hNK.symm
  have HQ : Hid (∀ u, Below w.heap.size w u → u.cell? ⟨p, 0, none⟩ = some (.pointer (some ⟨s, 0, none⟩)) ∧ u.cell? ⟨p, 1, none⟩ = some (.pointer (some ⟨tb, 0, none⟩))) := fun u hu => ⟨(h.past hu).c0, (h.past hu).c1⟩
  have CK : Hid (∀ u, Below w.heap.size w u → Calls Tryz.prog 79 #[.pointer (some ⟨s, 0, none⟩)] u fun e w' => (∃ a' cap', e = .returned (.slice a' NK cap') ∧ KeysAt w' a' KV ∧ NK ≤ cap') ∧ Below u.heap.size u w') := fun u hu => by rw [hNK, hKVe]; exact skeys_any s P.S XS u (h.past hu).sto
  obtain ⟨NM, hNM⟩ : ∃ n, n = M.length := ⟨_, rfl⟩
  have hNM9 : NM ≤ 100 := by rw [hNM]; exact h.tab.few
  have CA : Hid (∀ u, Below w.heap.size w u → Calls Tryz.prog 59 #[.pointer (some ⟨tb, 0, none⟩)] u fun e w' => (∃ la lc L, e = .returned (.slice la NM lc) ∧ AllOf w' u.heap.size (.slice la NM lc) L P.T) ∧ Below u.heap.size u w') := fun u hu => by rw [hNM, ← h.is]; exact pall_any tb M XT u (h.past hu).tab
  have HWA : Hid (WrtsAt w a l) := hw
  have HL : Hid (l.length = N) := hl
  have HKT : Hid ((keysT P.T).length ≤ 1000) := hKT
  obtain ⟨R, hR⟩ : ∃ R, R = (sortK (keysV P.S ++ l.map (fun W => W.k) ++ keysT P.T)).length := ⟨_, rfl⟩
  rw [← hR]
  have HR : Hid (∀ u c, KSet u w.heap.size c ((KV ++ keysT P.T) ++ l.map (fun W => W.k)) → c = R) := fun u c hs => by
    rw [hR]
    refine sortK_num hs (fun k => ?_)
    rw [hKVe]
    simp only [List.mem_append]
    constructor
    · rintro ((e | e) | e)
      · exact .inl (.inl e)
      · exact .inr e
      · exact .inl (.inr e)
    · rintro ((e | e) | e)
      · exact .inl (.inl e)
      · exact .inr e
      · exact .inl (.inr e)
  clear h hw hl hKV hKT hR hNK hNM hKVe
  go_enter Tryz.func45, Tryz.ntmps45
  have q0 : (w.alloc (.map #[] 0)).cell? ⟨p, 0, none⟩ = some (.pointer (some ⟨s, 0, none⟩)) := by rw [← hV]; exact (HQ.out V HBV.out).1
  have HV : Hid (w.alloc (.map #[] 0) = V) := hV.symm
  clear hV
  go_wp2_with (first
    | (go_at_call 79; rw [HV.out]; refine (CK.out _ HBV.out).mono ?_; rintro e w1 ⟨⟨ka, kp, rfl, hka, hkp⟩, hb⟩; have HKA : Hid (KeysAt w1 ka KV) := hka; have F1 : Hid (KFill V w1 w.heap.size 0 []) := HS0.out.past hb; clear hb hka q0))
  have HB1 : Hid (Below w.heap.size w w1) := F1.out.below HBV.out (Nat.le_refl _)
  have HS1 : Hid (KFill w1 w1 w.heap.size 0 (KV.take 0)) := ⟨F1.out.set, Chg.refl _ _⟩
  go_loopw [17] (fun iv wr => ∃ i c : Nat, iv = .int .i64 i ∧ i ≤ NK ∧ c ≤ i ∧ Hid (KFill w1 wr w.heap.size c (KV.take i))) (fun iv _ => NK - (intOf iv).toNat)
  case atStart => exact ⟨0, 0, rfl, Nat.zero_le _, Nat.le_refl _, HS1⟩
  case round =>
    obtain ⟨i, c, rfl, hi, hci, HF⟩ := hrel
    have hi0 : (0 : Int) ≤ (i : Int) := by omega
    by_cases hlt : i < NK
    · have h1 : (i : Int) < (NK : Int) := by omega
      obtain ⟨kb, ko, rfl, hkat, hky⟩ := HKA.out.key (i := i) (by rw [HNK.out]; exact hlt)
      obtain ⟨k, hk⟩ : ∃ k, k = KV.getD i [] := ⟨_, rfl⟩
      rw [← hk] at hkat hky
      have KK : Hid (Ky k) := hky
      have HKAT : Hid (KeyAt wr kb (ko + i * 16) k) := key_keptF hkat hky F1.out.set HF.out.chg
      have HT : Hid (KV.take (i + 1) = KV.take i ++ [k]) := by
        show _ = _
        refine take_keys_next ?_
        have hl : i < KV.length := by rw [HNK.out]; exact hlt
        rw [hk, List.getD_eq_getElem?_getD, List.getElem?_eq_getElem hl]
        rfl
      have hmine := KeyMine.made wr 38 zeroK zeroK_ky
      obtain ⟨hk1, hb2, hz1⟩ := laid_key wr 38 hky
      rw [zero_cells] at hmine hk1 hb2 hz1
      have HMI : Hid _ := hmine
      have HK1 : Hid _ := hk1
      have H2 : Hid (KFill w1 _ w.heap.size c (KV.take i)) := HF.out.past hb2
      clear hmine hk1 hb2 hz1 hkat hky hk
      go_wp2_with (first
        | ((with_reducible show wpList _ _ _ (Oper.mk (some 20) _ _ _ _ _ :: _) _ _); refine wpList_load_keyD 20 (by rfl) (by rfl) _ (by rfl) kb (ko + i * 16) (by rfl) k KK.out HKAT.out ?_)
        | (have hgo := HMI.out; clear hgo; refine wpList_store_keyU (by rfl) _ _ (by rfl) wr.heap.size 0 zeroK k (by rfl) (by rfl) KK.out HMI.out ?_; intro u2 hu; rw [← hu] at HK1 H2; clear hu HMI HKAT)
        | ((with_reducible show wpList _ _ _ (Oper.mk (some 22) _ _ _ _ _ :: _) _ _); refine wpList_load_keyD 22 (by rfl) (by rfl) _ (by rfl) wr.heap.size 0 (by rfl) k KK.out HK1.out.lies ?_)
        | (at_mapUpdate; refine wpList_store_set (by rfl) _ _ _ 144 (by rfl) 145 Tryz.underlying144 w.heap.size c (KV.take i) (by rfl) H2.out.set (by omega) k KK.out (by rfl) (by rfl) ?_; intro u3 c2 hset3 hc3 htn; have H4 : Hid (KFill w1 u3 w.heap.size c2 (KV.take (i + 1))) := (by show KFill _ _ _ _ _; rw [HT.out]; exact H2.out.turn hset3 htn); have H5 : Hid (c2 ≤ c + 1) := hc3; clear hset3 hc3 htn H2 HK1))
      go_roundw
      case rel => exact ⟨i + 1, c2, by go_num, by omega, by have := H5.out; omega, H4⟩
      case measure => simp [intOf]; omega
    · obtain rfl : i = NK := by omega
      have HT : Hid (KV.take i = KV) := List.take_of_length_le (by rw [HNK.out]; exact Nat.le_refl _)
      have HF2 : Hid (KFill V wr w.heap.size c KV) := by have := F1.out.then HF.out; rw [HT.out] at this; exact this
      have HB2 : Hid (Below w.heap.size w wr) := HF2.out.below HBV.out (Nat.le_refl _)
      obtain ⟨_, q1⟩ := HQ.out wr HB2.out
      clear HF
      go_wp2_with (first
        | (go_at_call 59; refine (CA.out _ HB2.out).mono ?_; rintro e w3 ⟨⟨la, lc, L, rfl, hA⟩, hb⟩; have HAL : Hid (AllOf w3 wr.heap.size (.slice la NM lc) L P.T) := hA; have F3 : Hid (KFill V w3 w.heap.size c KV) := HF2.out.past hb; clear hb hA q1))
      obtain ⟨hNL, hNc, hel⟩ := HAL.out.open
      have HLN : Hid (NM = L.length) := hNL
      have HEL : Hid (∀ i y, L[i]? = some y → ∃ g, la = some ⟨g, 0, none⟩ ∧ Hid (∀ v, Below w3.heap.size w3 v → EntAt v g (i * 6) y ∧ EntW v y)) := hel
      have HIS : Hid (ents L = P.T) := HAL.out.is
      have HB3 : Hid (Below w.heap.size w w3) := F3.out.below HBV.out (Nat.le_refl _)
      have HS3 : Hid (KFill w3 w3 w.heap.size c (KV ++ keysT (ents (L.take 0)))) := ⟨by have := F3.out.set; simpa [keysT, ents] using this, Chg.refl _ _⟩
      have HKL : Hid ((keysT (ents L)).length ≤ 1000) := by show _ ≤ _; rw [HIS.out]; exact HKT.out
      clear hel hNL HAL HF2
      go_loopw [31] (fun iv wr => ∃ j c : Nat, iv = .int .i64 j ∧ j ≤ NM ∧ c ≤ i + (keysT (ents (L.take j))).length ∧ Hid (KFill w3 wr w.heap.size c (KV ++ keysT (ents (L.take j))))) (fun iv _ => NM - (intOf iv).toNat)
      case atStart => exact ⟨0, c, rfl, Nat.zero_le _, by omega, HS3⟩
      case round =>
        obtain ⟨j, c1, rfl, hj, hcj, HG⟩ := hrel
        have hj0 : (0 : Int) ≤ (j : Int) := by omega
        have hpre := keysT_pre L j
        have hc9 : c1 ≤ 100000 := by have := HKL.out; omega
        by_cases hjl : j < NM
        · have h2 : (j : Int) < (NM : Int) := by omega
          obtain ⟨x, hx⟩ : ∃ x, L[j]? = some x := ⟨_, List.getElem?_eq_getElem (by rw [← HLN.out]; exact hjl)⟩
          obtain ⟨g, hag, hG⟩ := HEL.out j x hx
          subst hag
          have hx3 := hG.out w3 (Below.refl _ _)
          have FE : Hid (EntAt wr g (j * 6) x) := hx3.1.kept (HG.out.chg.block g hx3.1.lt (F3.out.set.off hx3.1.cells.1))
          have HWX : Hid (EntW wr x) := ⟨wrts_keptF hx3.2.wr F3.out.set HG.out.chg, hx3.2.room, hx3.2.few, hx3.2.ok⟩
          have HXI : Hid (L[j]? = some x) := hx
          have hone := keysT_one L hx
          have HKN : Hid (x.e.l.length ≤ 1000) := by show _ ≤ _; have := HKL.out; omega
          have hmi := EntMine.made wr 31 zeroE
          rw [zeroE_cells] at hmi
          have HMI : Hid _ := hmi
          obtain ⟨NX, hNX⟩ : ∃ n, n = x.e.l.length := ⟨_, rfl⟩
          obtain ⟨xa, hxa⟩ : ∃ n, n = x.a := ⟨_, rfl⟩
          obtain ⟨xc, hxc⟩ : ∃ n, n = x.c := ⟨_, rfl⟩
          have CAK : Hid (∀ u, Below wr.heap.size wr u → Calls Tryz.prog 88 #[.map (some w.heap.size), .slice xa NX xc] u fun e w' => (∃ v, e = .returned v) ∧ ∃ c', c' ≤ c1 + NX ∧ KFill w3 w' w.heap.size c' (KV ++ keysT (ents (L.take (j + 1))))) := fun u hu => by
            have hs := HG.out.past hu
            have hwx := HWX.out.past hu
            rw [hxa, hxc, hNX]
            refine (paddkeys_any w.heap.size c1 _ x.a x.e.l.length x.c x.e.l u hs.set rfl hwx.room (by have := HKN.out; omega) hc9 hwx.wr).mono ?_
            rintro e w' ⟨hv, c', hc', hf⟩
            refine ⟨hv, c', hc', ?_⟩
            rw [keysT_next HXI.out, ← List.append_assoc]
            exact hs.then hf
          have HX0 : Hid (∀ u b, EntMine u b x → u.cell? ⟨b, 5, none⟩ = some (.slice xa NX xc)) := fun u b hm => by
            rw [hxa, hxc, hNX]
            have := hm.at_.cells.2.2.2.2.2
            rwa [Nat.zero_add] at this
          have HNX : Hid (x.e.l.length = NX) := hNX.symm
          clear hx hG hx3 hmi hone hNX hxa hxc
          go_wp2_with (first
            | ((with_reducible show wpList _ _ _ (Oper.mk (some 34) _ _ _ _ _ :: _) _ _); refine wpList_load_pent 34 (by rfl) (by rfl) _ (by rfl) g (j * 6) (by rfl) x FE.out ?_)
            | (have hgo := HMI.out; clear hgo; refine wpList_store_pent (.tmp 9) (by rfl) _ (by rfl) wr.heap.size zeroE x (by rfl) (by rfl) HMI.out ?_; intro u2 hu; have HX2 : Hid (EntMine u2 wr.heap.size x) := hu ▸ HMI.out.store; have HB4 : Hid (Below wr.heap.size wr u2) := hu ▸ below_cells (Nat.le_refl _) ((Below.refl _ _).alloc (Nat.le_refl _) _); have z5 := HX0.out u2 wr.heap.size HX2.out; clear hu HMI)
            | (have hgo := HB4.out; clear hgo; go_at_call 88; refine (CAK.out _ HB4.out).mono ?_; rintro e u4 ⟨⟨v4, rfl⟩, c2, hc2, hf⟩; have H4 : Hid (KFill w3 u4 w.heap.size c2 (KV ++ keysT (ents (L.take (j + 1))))) := hf; have H5 : Hid (c2 ≤ c1 + NX) := hc2; clear hf hc2 z5))
          go_roundw
          case rel => exact ⟨j + 1, c2, by go_num, by omega, by rw [keysT_next HXI.out, List.length_append, List.length_map, HNX.out]; have := H5.out; omega, H4⟩
          case measure => simp [intOf]; omega
        · obtain rfl : j = NM := by omega
          have HT2 : Hid (keysT (ents (L.take j)) = keysT P.T) := by show _ = _; rw [List.take_of_length_le (by rw [← HLN.out]; exact Nat.le_refl _), HIS.out]
          have HF4 : Hid (KFill V wr w.heap.size c1 (KV ++ keysT P.T)) := by have := F3.out.then HG.out; rw [HT2.out] at this; exact this
          have HB4 : Hid (Below w.heap.size w wr) := HF4.out.below HBV.out (Nat.le_refl _)
          have CAK : Hid (Calls Tryz.prog 88 #[.map (some w.heap.size), .slice a N cap] wr fun e w' => (∃ v, e = .returned v) ∧ ∃ c', KFill V w' w.heap.size c' ((KV ++ keysT P.T) ++ l.map (fun W => W.k))) := by
            refine (paddkeys_any w.heap.size c1 _ a N cap l wr HF4.out.set HL.out hc (by omega) hc9 (HWA.out.past HB4.out)).mono ?_
            rintro e w' ⟨hv, c', _, hf⟩
            exact ⟨hv, c', HF4.out.then hf⟩
          go_wp2_with (first
            | (go_at_call 88; refine CAK.out.mono ?_; rintro e u5 ⟨⟨v5, rfl⟩, c5, hf⟩; have H5 : Hid (KFill V u5 w.heap.size c5 ((KV ++ keysT P.T) ++ l.map (fun W => W.k))) := hf; have hlen := fun ty => hf.set.len Tryz.underlying144 ty; clear hf)
            | ((with_reducible show wpList _ _ _ (Oper.mk (some 44) _ _ _ _ _ :: _) _ _); refine wpList_len_is 44 (by rfl) (by rfl) _ 144 (by rfl) w.heap.size _ (by rfl) hlen ?_))
          go_ret
          exact ⟨by rw [HR.out u5 c5 H5.out.set]; rfl, H5.out.below HBV.out (Nat.le_refl _)⟩
end Go.Proofs.YtileidbdmpeciaaGreat

namespace Go.Proofs.YtileidbdmpeciaaGreat
open Go.RowKit
set_option linter.unusedVariables false
set_option linter.unusedSimpArgs false

theorem good_few {e : Ent} (h : goodE e = true) : e.l.length ≤ 16 ∧ (e.l.map (fun W => W.k)).Nodup := by
  unfold goodE mayW at h
  simp only [Bool.and_eq_true, decide_eq_true_eq] at h
  refine ⟨h.2.1.1.2, ?_⟩
  unfold List.Nodup
  rw [List.pairwise_map]
  exact h.2.2
/-- The keys of what is prepared: no two are alike. -/
theorem keysT_nodup {T : List Ent} (h : TabK T) : (keysT T).Nodup := by
  unfold keysT List.Nodup
  rw [List.pairwise_flatMap]
  refine ⟨fun e he => (good_few (h.good e he)).2, h.apart.imp (fun {a b} hab x hx y hy e => ?_)⟩
  obtain ⟨W, hW, rfl⟩ := List.mem_map.1 hx
  obtain ⟨W2, hW2, e2⟩ := List.mem_map.1 hy
  exact hab W.k ⟨hasK_of hW, by rw [e, ← e2]; exact hasK_of hW2⟩
theorem PstK.few {P : PSt} (K : PstK P) : (keysV P.S).length ≤ 200 ∧ (keysT P.T).length ≤ 200 := by
  obtain ⟨U, u1, u2, u3⟩ := K.keys
  exact ⟨Nat.le_trans (len_le_of_sub (keys_nodup K.sto.sto.ord) u1) u3, Nat.le_trans (len_le_of_sub (keysT_nodup K.tab) u2) u3⟩
set_option maxHeartbeats 8000000 in
set_option maxRecDepth 8000 in
theorem pprep_any {q s tb mm : Nat} {P : PSt} {M : List EntM} {XS XT : Foot} (id es em t n : Int) (a : Option Addr) (N c : Nat) (l : List Wrt) (w : World) (h : ParI w q s tb mm P M XS XT) (K : PstK P) (hl : l.length = N) (he : EntW w ⟨(⟨id, es, em, t, n, l⟩ : Ent), a, c⟩) :
    Calls Tryz.prog 10 #[.pointer (some ⟨q, 0, none⟩), .agg #[.int .i64 id, .int .i64 es, .int .u8 em, .int .i64 t, .int .u8 n, .slice a N c]] w fun e w' => e = .returned (.int .i64 (prepP P ⟨id, es, em, t, n, l⟩).1) ∧ ParL w w' q s tb mm M XS XT (prepP P ⟨id, es, em, t, n, l⟩).2 := by
  obtain ⟨Z, hZ⟩ : ∃ Z, Z = prepP P ⟨id, es, em, t, n, l⟩ := ⟨_, rfl⟩
  rw [← hZ]
  obtain ⟨W0, hW0⟩ : ∃ u, u = w.alloc (.cells #[.int .i64 id, .int .i64 es, .int .u8 em, .int .i64 t, .int .u8 n, .slice a N c] 31) := ⟨_, rfl⟩
  have hb0 : Below w.heap.size w W0 := by rw [hW0]; exact (Below.refl _ _).alloc (Nat.le_refl _) _
  have e0 : W0.heap.size = w.heap.size + 1 := by rw [hW0]; simp
  have HB0 : Hid (Below w.heap.size w W0) := hb0
  have HW0 : Hid (w.alloc (.cells #[.int .i64 id, .int .i64 es, .int .u8 em, .int .i64 t, .int .u8 n, .slice a N c] 31) = W0) := hW0.symm
  have k1 : ∀ o, W0.cell? ⟨w.heap.size, o, none⟩ = (#[.int .i64 id, .int .i64 es, .int .u8 em, .int .i64 t, .int .u8 n, .slice a N c] : Array Value)[o]? := fun o => by rw [hW0, World.cell?_alloc_new]
  have FE : Hid (∀ u, Below W0.heap.size W0 u → u.cell? ⟨w.heap.size, 0, none⟩ = some (.int .i64 id) ∧ u.cell? ⟨w.heap.size, 1, none⟩ = some (.int .i64 es) ∧ u.cell? ⟨w.heap.size, 2, none⟩ = some (.int .u8 em) ∧ u.cell? ⟨w.heap.size, 3, none⟩ = some (.int .i64 t) ∧ u.cell? ⟨w.heap.size, 4, none⟩ = some (.int .u8 n) ∧ u.cell? ⟨w.heap.size, 5, none⟩ = some (.slice a N c)) := fun u hu => by
    have f : ∀ o, u.cell? ⟨w.heap.size, o, none⟩ = W0.cell? ⟨w.heap.size, o, none⟩ := fun o => hu.cell (p := ⟨w.heap.size, o, none⟩) (by show w.heap.size < _; omega)
    exact ⟨(f 0).trans (k1 0), (f 1).trans (k1 1), (f 2).trans (k1 2), (f 3).trans (k1 3), (f 4).trans (k1 4), (f 5).trans (k1 5)⟩
  have HQ : Hid (∀ u, Below W0.heap.size W0 u → Below w.heap.size w u ∧ u.cell? ⟨q, 1, none⟩ = some (.pointer (some ⟨tb, 0, none⟩))) := fun u hu => by
    have hb := hb0.trans (hu.mono hb0.size)
    exact ⟨hb, (h.past hb).c1⟩
  obtain ⟨gd, hgd⟩ : ∃ g, g = goodE ⟨id, es, em, t, n, l⟩ := ⟨_, rfl⟩
  obtain ⟨R, hR⟩ : ∃ R, R = stateP P id := ⟨_, rfl⟩
  obtain ⟨cf, hcf⟩ : ∃ cf, cf = l.any (cfW P.S P.T es em) := ⟨_, rfl⟩
  obtain ⟨fl, hfl⟩ : ∃ fl, fl = l.any (fun W => decide (50 ≤ kMany P.S W.k)) := ⟨_, rfl⟩
  obtain ⟨NS, hNS⟩ : ∃ NS, NS = (sortK (keysV P.S ++ l.map (fun W => W.k) ++ keysT P.T)).length := ⟨_, rfl⟩
  obtain ⟨ad, had⟩ : ∃ ad, ad = addT P.T ⟨id, es, em, t, n, l⟩ := ⟨_, rfl⟩
  have hroom : N ≤ c := by rw [← hl]; exact he.room
  have hfewN : N ≤ 1000000 := by rw [← hl]; exact he.few
  have hid : I64 id := he.ok.id
  have HZ : Hid (Z = if gd = false then (1, P) else if R ≠ 0 then (10, P) else if cf = true then (9, P) else if (fl || decide (200 < NS)) = true then (6, P) else (ad.1, ⟨P.S, ad.2, P.O⟩)) := by
    show _ = _
    rw [hZ, hgd, hR, hcf, hfl, hNS, had]
    rfl
  have CGE : Hid (∀ u, Below w.heap.size w u → Calls Tryz.prog 42 #[.agg #[.int .i64 id, .int .i64 es, .int .u8 em, .int .i64 t, .int .u8 n, .slice a N c]] u fun e w' => e = .returned (.bool gd) ∧ Below u.heap.size u w') := fun u hu => by rw [hgd]; exact pgood_any id es em t n a N c l u hl hroom hfewN (he.wr.past hu)
  have CS : Hid (∀ u, Below w.heap.size w u → Calls Tryz.prog 19 #[.pointer (some ⟨q, 0, none⟩), .int .i64 id] u fun e w' => e = .returned (.int .i64 R) ∧ Below u.heap.size u w') := fun u hu => by rw [hR]; exact pstate_any id hid u (h.past hu) K.opn
  have CCF : Hid (∀ u, Below w.heap.size w u → Calls Tryz.prog 43 #[.pointer (some ⟨q, 0, none⟩), .agg #[.int .i64 id, .int .i64 es, .int .u8 em, .int .i64 t, .int .u8 n, .slice a N c]] u fun e w' => e = .returned (.bool cf) ∧ Below u.heap.size u w') := fun u hu => by rw [hcf]; exact pconf_any id es em t n a N c l u (h.past hu) hl hroom hfewN (he.wr.past hu)
  have CFU : Hid (∀ u, Below w.heap.size w u → Calls Tryz.prog 44 #[.pointer (some ⟨q, 0, none⟩), .slice a N c] u fun e w' => e = .returned (.bool fl) ∧ Below u.heap.size u w') := fun u hu => by rw [hfl]; exact pfull_any a N c l u (h.past hu) hl hroom hfewN (he.wr.past hu)
  have CCO : Hid (gd = true → ∀ u, Below w.heap.size w u → Calls Tryz.prog 45 #[.pointer (some ⟨q, 0, none⟩), .slice a N c] u fun e w' => e = .returned (.int .i64 (NS : Nat)) ∧ Below u.heap.size u w') := fun hg u hu => by
    rw [hNS]
    have h16 := (good_few (hgd.symm.trans hg)).1
    have hf := K.few
    exact pcount_any a N c l u (h.past hu) hl hroom (by rw [← hl]; exact Nat.le_trans h16 (by decide)) (he.wr.past hu) (Nat.le_trans hf.1 (by decide)) (Nat.le_trans hf.2 (by decide))
  have CAD : Hid (∀ u, Below w.heap.size w u → Calls Tryz.prog 46 #[.pointer (some ⟨tb, 0, none⟩), .agg #[.int .i64 id, .int .i64 es, .int .u8 em, .int .i64 t, .int .u8 n, .slice a N c]] u fun e w' => e = .returned (.int .i64 ad.1) ∧ ParL w w' q s tb mm M XS XT ⟨P.S, ad.2, P.O⟩) := fun u hu => by
    refine (padd_any tb M XT id es em t n a N c l u (h.past hu).tab hl (he.past hu)).mono ?_
    rintro e w' ⟨rfl, M', X', d1, d2, d3, d4⟩
    have hp := (h.past hu).turnT d2 d3 d4
    rw [d1, h.is, ← had] at hp
    exact ⟨by rw [had, h.is], ParL.since h hu hp⟩
  have HP : Hid (ParI w q s tb mm P M XS XT) := h
  have HZ2 := HZ.out
  clear h K he hl hZ hW0 hgd hR hcf hfl hNS had hid hb0 e0 k1 hroom hfewN
  cases gd with
  | false =>
    have HF : Hid (Z = (1, P)) := by rw [if_pos rfl] at HZ2; exact HZ2
    clear HZ2
    go_enter Tryz.func10, Tryz.ntmps10
    go_wp2_with (first | (go_at_call 42; rw [HW0.out]; refine (CGE.out _ HB0.out).mono ?_; rintro e w1 ⟨rfl, hb⟩; have H1 : Hid (Below W0.heap.size W0 w1) := hb; clear hb))
    go_ret
    exact ⟨by rw [HF.out]; rfl, by rw [HF.out]; exact HP.out.stay (HQ.out _ H1.out).1⟩
  | true =>
  rw [if_neg (by decide)] at HZ2
  have CCO2 : Hid _ := CCO.out rfl
  clear CCO
  by_cases h2 : R ≠ 0
  · have HF : Hid (Z = (10, P)) := by rw [if_pos h2] at HZ2; exact HZ2
    have h2b : (R == 0) = false := by simpa using h2
    clear HZ2
    go_enter Tryz.func10, Tryz.ntmps10
    go_wp2_with (first
      | (have hgo := H1.out; clear hgo; go_at_call 19; refine (CS.out _ (HQ.out _ H1.out).1).mono ?_; rintro e w2 ⟨rfl, hb⟩; have H2 : Hid (Below W0.heap.size W0 w2) := H1.out.trans (hb.mono H1.out.size); clear hb)
      | (go_at_call 42; rw [HW0.out]; refine (CGE.out _ HB0.out).mono ?_; rintro e w1 ⟨rfl, hb⟩; have H1 : Hid (Below W0.heap.size W0 w1) := hb; obtain ⟨e0, _, _, _, _, _⟩ := FE.out w1 hb; clear hb))
    go_ret
    exact ⟨by rw [HF.out]; rfl, by rw [HF.out]; exact HP.out.stay (HQ.out _ H2.out).1⟩
  rw [if_neg h2] at HZ2
  obtain rfl : R = 0 := by omega
  clear h2
  cases cf with
  | true =>
    have HF : Hid (Z = (9, P)) := by rw [if_pos rfl] at HZ2; exact HZ2
    clear HZ2
    go_enter Tryz.func10, Tryz.ntmps10
    go_wp2_with (first
      | (have hgo := H2.out; clear hgo; go_at_call 43; refine (CCF.out _ (HQ.out _ H2.out).1).mono ?_; rintro e w3 ⟨rfl, hb⟩; have H3 : Hid (Below W0.heap.size W0 w3) := H2.out.trans (hb.mono H2.out.size); clear hb)
      | (have hgo := H1.out; clear hgo; go_at_call 19; refine (CS.out _ (HQ.out _ H1.out).1).mono ?_; rintro e w2 ⟨rfl, hb⟩; have H2 : Hid (Below W0.heap.size W0 w2) := H1.out.trans (hb.mono H1.out.size); clear e0; obtain ⟨e0, e1, e2, e3, e4, e5⟩ := FE.out w2 H2.out; clear hb)
      | (go_at_call 42; rw [HW0.out]; refine (CGE.out _ HB0.out).mono ?_; rintro e w1 ⟨rfl, hb⟩; have H1 : Hid (Below W0.heap.size W0 w1) := hb; obtain ⟨e0, _, _, _, _, _⟩ := FE.out w1 hb; clear hb))
    go_ret
    exact ⟨by rw [HF.out]; rfl, by rw [HF.out]; exact HP.out.stay (HQ.out _ H3.out).1⟩
  | false =>
  rw [if_neg (by decide)] at HZ2
  cases fl with
  | true =>
    have HF : Hid (Z = (6, P)) := by rw [if_pos (by simp)] at HZ2; exact HZ2
    clear HZ2
    go_enter Tryz.func10, Tryz.ntmps10
    go_wp2_with (first
      | (have hgo := H3.out; clear hgo; go_at_call 44; refine (CFU.out _ (HQ.out _ H3.out).1).mono ?_; rintro e w4 ⟨rfl, hb⟩; have H4 : Hid (Below W0.heap.size W0 w4) := H3.out.trans (hb.mono H3.out.size); clear hb)
      | (have hgo := H2.out; clear hgo; go_at_call 43; refine (CCF.out _ (HQ.out _ H2.out).1).mono ?_; rintro e w3 ⟨rfl, hb⟩; have H3 : Hid (Below W0.heap.size W0 w3) := H2.out.trans (hb.mono H2.out.size); clear e0 e1 e2 e3 e4 e5; obtain ⟨_, _, _, _, _, e5⟩ := FE.out w3 H3.out; clear hb)
      | (have hgo := H1.out; clear hgo; go_at_call 19; refine (CS.out _ (HQ.out _ H1.out).1).mono ?_; rintro e w2 ⟨rfl, hb⟩; have H2 : Hid (Below W0.heap.size W0 w2) := H1.out.trans (hb.mono H1.out.size); clear e0; obtain ⟨e0, e1, e2, e3, e4, e5⟩ := FE.out w2 H2.out; clear hb)
      | (go_at_call 42; rw [HW0.out]; refine (CGE.out _ HB0.out).mono ?_; rintro e w1 ⟨rfl, hb⟩; have H1 : Hid (Below W0.heap.size W0 w1) := hb; obtain ⟨e0, _, _, _, _, _⟩ := FE.out w1 hb; clear hb))
    go_ret
    exact ⟨by rw [HF.out]; rfl, by rw [HF.out]; exact HP.out.stay (HQ.out _ H4.out).1⟩
  | false =>
  have hdi : decide ((200 : Int) < (NS : Int)) = decide (200 < NS) := decide_eq_decide.2 (by omega)
  by_cases h200 : 200 < NS
  · have HF : Hid (Z = (6, P)) := by rw [if_pos (by simp [h200])] at HZ2; exact HZ2
    have b200 : decide ((200 : Int) < (NS : Int)) = true := by rw [hdi]; exact decide_eq_true h200
    clear HZ2 hdi h200
    go_enter Tryz.func10, Tryz.ntmps10
    go_wp2_with (first
      | (have hgo := H4.out; clear hgo; go_at_call 45; refine (CCO2.out _ (HQ.out _ H4.out).1).mono ?_; rintro e w5 ⟨rfl, hb⟩; have H5 : Hid (Below W0.heap.size W0 w5) := H4.out.trans (hb.mono H4.out.size); clear hb)
      | (have hgo := H3.out; clear hgo; go_at_call 44; refine (CFU.out _ (HQ.out _ H3.out).1).mono ?_; rintro e w4 ⟨rfl, hb⟩; have H4 : Hid (Below W0.heap.size W0 w4) := H3.out.trans (hb.mono H3.out.size); clear e5; obtain ⟨_, _, _, _, _, e5⟩ := FE.out w4 H4.out; clear hb)
      | (have hgo := H2.out; clear hgo; go_at_call 43; refine (CCF.out _ (HQ.out _ H2.out).1).mono ?_; rintro e w3 ⟨rfl, hb⟩; have H3 : Hid (Below W0.heap.size W0 w3) := H2.out.trans (hb.mono H2.out.size); clear e0 e1 e2 e3 e4 e5; obtain ⟨_, _, _, _, _, e5⟩ := FE.out w3 H3.out; clear hb)
      | (have hgo := H1.out; clear hgo; go_at_call 19; refine (CS.out _ (HQ.out _ H1.out).1).mono ?_; rintro e w2 ⟨rfl, hb⟩; have H2 : Hid (Below W0.heap.size W0 w2) := H1.out.trans (hb.mono H1.out.size); clear e0; obtain ⟨e0, e1, e2, e3, e4, e5⟩ := FE.out w2 H2.out; clear hb)
      | (go_at_call 42; rw [HW0.out]; refine (CGE.out _ HB0.out).mono ?_; rintro e w1 ⟨rfl, hb⟩; have H1 : Hid (Below W0.heap.size W0 w1) := hb; obtain ⟨e0, _, _, _, _, _⟩ := FE.out w1 hb; clear hb))
    go_ret
    exact ⟨by rw [HF.out]; rfl, by rw [HF.out]; exact HP.out.stay (HQ.out _ H5.out).1⟩
  · have HF : Hid (Z = (ad.1, ⟨P.S, ad.2, P.O⟩)) := by rw [if_neg (by simp [h200])] at HZ2; exact HZ2
    have b200 : decide ((200 : Int) < (NS : Int)) = false := by rw [hdi]; exact decide_eq_false h200
    clear HZ2 hdi h200
    go_enter Tryz.func10, Tryz.ntmps10
    go_wp2_with (first
      | (have hgo := H4.out; clear hgo; go_at_call 45; refine (CCO2.out _ (HQ.out _ H4.out).1).mono ?_; rintro e w5 ⟨rfl, hb⟩; have H5 : Hid (Below W0.heap.size W0 w5) := H4.out.trans (hb.mono H4.out.size); clear hb e5)
      | (have hgo := H3.out; clear hgo; go_at_call 44; refine (CFU.out _ (HQ.out _ H3.out).1).mono ?_; rintro e w4 ⟨rfl, hb⟩; have H4 : Hid (Below W0.heap.size W0 w4) := H3.out.trans (hb.mono H3.out.size); clear e5; obtain ⟨_, _, _, _, _, e5⟩ := FE.out w4 H4.out; clear hb)
      | (have hgo := H2.out; clear hgo; go_at_call 43; refine (CCF.out _ (HQ.out _ H2.out).1).mono ?_; rintro e w3 ⟨rfl, hb⟩; have H3 : Hid (Below W0.heap.size W0 w3) := H2.out.trans (hb.mono H2.out.size); clear e0 e1 e2 e3 e4 e5; obtain ⟨_, _, _, _, _, e5⟩ := FE.out w3 H3.out; clear hb)
      | (have hgo := H1.out; clear hgo; go_at_call 19; refine (CS.out _ (HQ.out _ H1.out).1).mono ?_; rintro e w2 ⟨rfl, hb⟩; have H2 : Hid (Below W0.heap.size W0 w2) := H1.out.trans (hb.mono H1.out.size); clear e0; obtain ⟨e0, e1, e2, e3, e4, e5⟩ := FE.out w2 H2.out; clear hb)
      | (go_at_call 42; rw [HW0.out]; refine (CGE.out _ HB0.out).mono ?_; rintro e w1 ⟨rfl, hb⟩; have H1 : Hid (Below W0.heap.size W0 w1) := hb; obtain ⟨e0, _, _, _, _, _⟩ := FE.out w1 hb; clear hb))
    have F5 : Hid (∀ u, Below w5.heap.size w5 u → Below W0.heap.size W0 u) := fun u hu => H5.out.trans (hu.mono H5.out.size)
    refine wp_region_noPanic ?_
    refine region_up 5 (fun u => Below w5.heap.size w5 u) (by kernel_rfl) ?_ (fun hHeld => ?_)
    · exact (Below.refl _ _).drew
    refine up_take (i := 0) (v := ?_) (by kernel_rfl) (by kernel_rfl) (by kernel_rfl) rfl (by kernel_rfl) (by kernel_rfl) (by kernel_rfl) (fun _ _ _ h => h) (Or.inl ⟨by rfl, ?_⟩) hHeld ?_
    rotate_left
    · intro u hSu
      (go_simp) <;> (with_reducible rfl)
    change wpUp _ _ _ _ _ _ _ _ (Act.put _ (some 27) _) _
    simp only [Act.put, List.setIfInBounds_toArray, List.set_cons_zero, List.set_cons_succ]
    refine up_take (i := 1) (v := ?_) (by kernel_rfl) (by kernel_rfl) (by kernel_rfl) rfl (by kernel_rfl) (by kernel_rfl) (by kernel_rfl) (fun _ _ _ h => h) (Or.inl ⟨by rfl, ?_⟩) hHeld ?_
    rotate_left
    · intro u hSu
      (go_simp) <;> (with_reducible rfl)
    change wpUp _ _ _ _ _ _ _ _ (Act.put _ (some 28) _) _
    simp only [Act.put, List.setIfInBounds_toArray, List.set_cons_zero, List.set_cons_succ]
    refine up_take (i := 2) (v := ?_) (by kernel_rfl) (by kernel_rfl) (by kernel_rfl) rfl (by kernel_rfl) (by kernel_rfl) (by kernel_rfl) (fun _ _ _ h => h) (Or.inl ⟨by rfl, ?_⟩) hHeld ?_
    rotate_left
    · intro u hSu
      (go_simp) <;> (with_reducible rfl)
    change wpUp _ _ _ _ _ _ _ _ (Act.put _ (some 29) _) _
    simp only [Act.put, List.setIfInBounds_toArray, List.set_cons_zero, List.set_cons_succ]
    refine up_take (i := 3) (v := ?_) (by kernel_rfl) (by kernel_rfl) (by kernel_rfl) rfl (by kernel_rfl) (by kernel_rfl) (by kernel_rfl) (fun _ _ _ h => h) (Or.inl ⟨by rfl, ?_⟩) hHeld ?_
    rotate_left
    · intro u hSu
      have r1 := (HQ.out u (F5.out u hSu)).2
      (go_simp) <;> (with_reducible rfl)
    change wpUp _ _ _ _ _ _ _ _ (Act.put _ (some 30) _) _
    simp only [Act.put, List.setIfInBounds_toArray, List.set_cons_zero, List.set_cons_succ]
    refine up_take (i := 4) (v := ?_) (by kernel_rfl) (by kernel_rfl) (by kernel_rfl) rfl (by kernel_rfl) (by kernel_rfl) (by kernel_rfl) (fun _ _ _ h => h) (Or.inl ⟨by rfl, ?_⟩) hHeld ?_
    rotate_left
    · intro u hSu
      obtain ⟨r0, r1, r2, r3, r4, r5⟩ := FE.out u (F5.out u hSu)
      (go_simp) <;> (with_reducible rfl)
    change wpUp _ _ _ _ _ _ _ _ (Act.put _ (some 31) _) _
    simp only [Act.put, List.setIfInBounds_toArray, List.set_cons_zero, List.set_cons_succ]
    refine up_ready (rs := [5]) (by kernel_rfl) (by simp) ?_
    refine AllUp.that rfl (fun K hK => ?_) AllUp.nil
    go_simp
    go_at_call 46
    refine (CAD.out _ (HQ.out _ (F5.out _ hHeld)).1).mono ?_
    rintro e w9 ⟨rfl, hd9⟩
    have G9 : Hid (ParL w w9 q s tb mm M XS XT ⟨P.S, ad.2, P.O⟩) := hd9; clear hd9
    refine hK.out _ _ ?_
    clear hK K hHeld
    refine up_after (i := 6) (v := ?_) (by kernel_rfl) (by kernel_rfl) rfl (Or.inl ⟨by rfl, ?_⟩) ?_
    rotate_left
    · intro u hSu
      (go_simp) <;> (with_reducible rfl)
    change wpUp _ _ _ _ _ _ _ _ (Act.put _ (some 4) _) _
    simp only [Act.put, List.setIfInBounds_toArray, List.set_cons_zero, List.set_cons_succ]
    refine up_done (by kernel_rfl) ?_
    refine NoPanic.normal ?_
    go_wp2
    go_ret
    exact ⟨by rw [HF.out]; rfl, by rw [HF.out]; exact G9.out⟩
end Go.Proofs.YtileidbdmpeciaaGreat

