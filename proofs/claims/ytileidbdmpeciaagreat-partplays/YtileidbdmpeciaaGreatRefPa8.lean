/-
  The document's own parts: Prepare.
-/
import Derived.Test.YtileidbdmpeciaaGreatRefPa7
import Derived.Test.YtileidbdmpeciaaGreatAu90
import Derived.Test.YtileidbdmpeciaaGreatAu107
namespace Go.Proofs.YtileidbdmpeciaaGreat
open Go.RowKit
set_option linter.unusedVariables false
set_option linter.unusedSimpArgs false

theorem NewW.from_ {w u : World} {M M' : List EntM} (h : NewW u M M') (hb : w.heap.size ≤ u.heap.size) : NewW w M M' := fun x hx => (h x hx).imp id (fun g hl b o e => Nat.le_trans hb (g hl b o e))
theorem kys_table {w : World} {B q : Nat} {M : List EntM} (h : TabR w B q M) : Kys (keysT (ents M)) := fun k hk => by
  obtain ⟨e, he, hk⟩ := List.mem_flatMap.1 hk
  obtain ⟨x, hx, rfl⟩ := List.mem_map.1 he
  obtain ⟨W, hW, rfl⟩ := List.mem_map.1 hk
  exact ((h.wrs x hx).wr.oks W hW).key
set_option maxHeartbeats 32000000 in
set_option maxRecDepth 8000 in
theorem rprepare_any (B q s tb : Nat) (S : List Ver) (M : List EntM) (O : List (Int × Int)) (id es em t n : Int) (a : Option Addr) (N c : Nat) (l : List Wrt) (w : World) (h : PrtR w B q s tb S M O) (hB : B ≤ w.heap.size) (hM : M.length ≤ 100) (hl : l.length = N) (he : EntW w ⟨(⟨id, es, em, t, n, l⟩ : Ent), a, c⟩) (hK : goodE ⟨id, es, em, t, n, l⟩ = true → (keysV S).length + l.length + (keysT (ents M)).length ≤ 1000) :
    Calls Tryz.prog 23 #[.pointer (some ⟨q, 0, none⟩), .agg #[.int .i64 id, .int .i64 es, .int .u8 em, .int .i64 t, .int .u8 n, .slice a N c]] w fun e w' => e = .returned (.int .i64 (prepP ⟨S, ents M, O⟩ ⟨id, es, em, t, n, l⟩).1) ∧ PrtD w w' B q s tb M (prepP ⟨S, ents M, O⟩ ⟨id, es, em, t, n, l⟩).2 := by
  obtain ⟨Z, hZ⟩ : ∃ Z, Z = prepP ⟨S, ents M, O⟩ ⟨id, es, em, t, n, l⟩ := ⟨_, rfl⟩
  rw [← hZ]
  obtain ⟨W0, hW0⟩ : ∃ u, u = w.alloc (.cells #[.int .i64 id, .int .i64 es, .int .u8 em, .int .i64 t, .int .u8 n, .slice a N c] 58) := ⟨_, rfl⟩
  have HB0 : Hid (Below w.heap.size w W0) := by rw [hW0]; exact (Below.refl _ _).alloc (Nat.le_refl _) _
  have HW0 : Hid (w.alloc (.cells #[.int .i64 id, .int .i64 es, .int .u8 em, .int .i64 t, .int .u8 n, .slice a N c] 58) = W0) := hW0.symm
  have FE : Hid (∀ u, Below W0.heap.size W0 u → EBox u w.heap.size id es em t n a N c) := fun u hb => (by rw [hW0]; exact EBox.made w 58 id es em t n a N c : EBox W0 w.heap.size id es em t n a N c).past hb
  obtain ⟨NM, hNM⟩ : ∃ NM, NM = M.length := ⟨_, rfl⟩
  obtain ⟨NK, hNK⟩ : ∃ NK, NK = (keysV S).length := ⟨_, rfl⟩
  obtain ⟨NT, hNT⟩ : ∃ NT, NT = (keysT (ents M)).length := ⟨_, rfl⟩
  obtain ⟨a0, c0, hcap, hcell, hs⟩ := h.tab.open
  rw [← hNM] at hcap hcell hM
  have HQ : Hid (∀ u, Below W0.heap.size W0 u → Below w.heap.size w u ∧ u.cell? ⟨q, 0, none⟩ = some (.pointer (some ⟨s, 0, none⟩)) ∧ u.cell? ⟨q, 1, none⟩ = some (.pointer (some ⟨tb, 0, none⟩)) ∧ u.cell? ⟨tb, 0, none⟩ = some (.slice a0 NM c0)) := fun u hu => by
    have hb2 : Below w.heap.size w u := HB0.out.trans (hu.mono HB0.out.size)
    exact ⟨hb2, (hb2.cell (p := ⟨q, 0, none⟩) h.lt).trans h.c0, (hb2.cell (p := ⟨q, 1, none⟩) h.lt).trans h.c1, hcell u hb2⟩
  have HNM : Hid (M.length = NM) := hNM.symm
  have HL : Hid (l.length = N) := hl
  have HWR : Hid (∀ x ∈ M, EntW w x) := h.tab.wrs
  have HS : Hid (∀ i x, M[i]? = some x → ∃ g, a0 = some ⟨g, 0, none⟩ ∧ Hid (∀ v, Below w.heap.size w v → EntAt v g (i * 6) x)) := fun i x hx => by
    rcases hs with e | ⟨g, e1, e4⟩
    · rw [e] at hx; simp at hx
    · exact ⟨g, e1, fun v hv => e4 v hv i x hx⟩
  obtain ⟨gd, hgd⟩ : ∃ g, g = goodE ⟨id, es, em, t, n, l⟩ := ⟨_, rfl⟩
  obtain ⟨R, hR⟩ : ∃ R, R = stateP ⟨S, ents M, O⟩ id := ⟨_, rfl⟩
  obtain ⟨cf, hcf⟩ : ∃ cf, cf = cfW S (ents M) es em := ⟨_, rfl⟩
  obtain ⟨ad, had⟩ : ∃ ad, ad = addT (ents M) ⟨id, es, em, t, n, l⟩ := ⟨_, rfl⟩
  have hroom : N ≤ c := by rw [← hl]; exact he.room
  have hfwN : N ≤ 1000000 := by rw [← hl]; exact he.few
  have HZ : Hid (Z = if gd = false then (1, ⟨S, ents M, O⟩) else if R ≠ 0 then (10, ⟨S, ents M, O⟩) else if l.any cf = true then (9, ⟨S, ents M, O⟩) else if (l.any (fun W => decide (50 ≤ kMany S W.k)) || decide (200 < (sortK (keysV S ++ l.map (fun W => W.k) ++ keysT (ents M))).length)) = true then (6, ⟨S, ents M, O⟩) else (ad.1, ⟨S, ad.2, O⟩)) := by
    show _ = _
    rw [hZ, hgd, hR, hcf, had]
    rfl
  have CGE : Hid (∀ u, Below w.heap.size w u → Calls Tryz.prog 60 #[.agg #[.int .i64 id, .int .i64 es, .int .u8 em, .int .i64 t, .int .u8 n, .slice a N c]] u fun e w' => e = .returned (.bool gd) ∧ Below u.heap.size u w') := fun u hu => by rw [hgd]; exact rgoode_any id es em t n a N c l u hl hroom hfwN (he.wr.past hu)
  have CS : Hid (∀ u, Below w.heap.size w u → Calls Tryz.prog 34 #[.pointer (some ⟨q, 0, none⟩), .int .i64 id] u fun e w' => e = .returned (.int .i64 R) ∧ Below u.heap.size u w') := fun u hu => by rw [hR]; exact rstate_any B q s tb S M O id u (h.past hu)
  have CKS : Hid (∀ u, Below w.heap.size w u → Calls Tryz.prog 61 #[.pointer (some ⟨s, 0, none⟩)] u fun e w' => ∃ a' c', e = .returned (.slice a' NK c') ∧ OwnB 38 16 u w' (.slice a' NK c') NK ((keysV S).flatMap kc) ∧ Kys (keysV S)) := fun u hu => by rw [hNK]; exact rkeys10m_any B s S u (h.past hu).sto
  have HP : Hid (PrtR w B q s tb S M O) := h
  have HB : Hid (B ≤ w.heap.size) := hB
  have HEW : Hid (EntW w ⟨(⟨id, es, em, t, n, l⟩ : Ent), a, c⟩) := he
  have HNK : Hid ((keysV S).length = NK) := hNK.symm
  have HNT : Hid ((keysT (ents M)).length = NT) := hNT.symm
  have HCFD : Hid (∀ W : Wrt, cf W = ((holdM M W.k).isSome || ((newestV S W.k).isSome && decide (0 < cmpS (newT (newestV S W.k)) (newN (newestV S W.k)) es em)))) := fun W => by
    rw [hcf, ← newer_e]
    unfold cfW
    rw [← holdM_e, Option.isSome_map]
  have HAD : Hid (ad = addT (ents M) ⟨id, es, em, t, n, l⟩) := had
  have HKY : Hid (Kys (l.map (fun W => W.k)) ∧ Kys (keysT (ents M))) := ⟨kys_writes he.wr, kys_table h.tab⟩
  rw [← hgd, ← hNK, ← hNT, hl] at hK
  have HZ2 := HZ.out
  clear h hs hcell hZ hW0 hR hcf had hB he hl hgd hNM hNK hNT hcap
  cases gd with
  | false =>
    have HF : Hid (Z = (1, ⟨S, ents M, O⟩)) := by rw [if_pos rfl] at HZ2; exact HZ2
    clear HZ2 hK
    go_enter Tryz.func23, Tryz.ntmps23
    go_wp2_with (first | (go_at_call 60; rw [HW0.out]; refine (CGE.out _ HB0.out).mono ?_; rintro e w1 ⟨rfl, hb⟩; have H1 : Hid (Below W0.heap.size W0 w1) := hb; clear hb))
    go_ret
    exact ⟨by rw [HF.out]; rfl, by rw [HF.out]; exact HP.out.stay (HQ.out _ H1.out).1⟩
  | true =>
  have hK2 := hK rfl
  rw [if_neg (by decide)] at HZ2
  by_cases hR0 : ¬ R = 0
  · have HF : Hid (Z = (10, ⟨S, ents M, O⟩)) := by rw [if_pos hR0] at HZ2; exact HZ2
    have hR0b : (R == 0) = false := by simpa using hR0
    clear HZ2 hK hK2 hR0
    go_enter Tryz.func23, Tryz.ntmps23
    go_wp2_with (first | (have hgo := H1.out; clear hgo; go_at_call 34; refine (CS.out _ (HQ.out _ H1.out).1).mono ?_; rintro e w2 ⟨rfl, hb⟩; have H2 : Hid (Below W0.heap.size W0 w2) := H1.out.trans (hb.mono H1.out.size); clear hb) | (go_at_call 60; rw [HW0.out]; refine (CGE.out _ HB0.out).mono ?_; rintro e w1 ⟨rfl, hb⟩; have H1 : Hid (Below W0.heap.size W0 w1) := hb; obtain ⟨z0, _, _, _, _, _⟩ := FE.out w1 hb; clear hb))
    go_ret
    exact ⟨by rw [HF.out]; rfl, by rw [HF.out]; exact HP.out.stay (HQ.out _ H2.out).1⟩
  obtain rfl : R = 0 := Decidable.not_not.1 hR0
  clear hR0
  rw [if_neg (by simp)] at HZ2
  have HZ3 : Hid (l.any cf = true → Z = (9, ⟨S, ents M, O⟩)) := fun e => by rw [if_pos e] at HZ2; exact HZ2
  have HZ4 : Hid (l.any cf = false → Z = if (l.any (fun W => decide (50 ≤ kMany S W.k)) || decide (200 < (sortK (keysV S ++ l.map (fun W => W.k) ++ keysT (ents M))).length)) = true then (6, ⟨S, ents M, O⟩) else (ad.1, ⟨S, ad.2, O⟩)) := fun e => by rw [if_neg (by rw [e]; decide)] at HZ2; exact HZ2
  clear HZ2 hK HZ
  go_enter Tryz.func23, Tryz.ntmps23
  go_wp2_with (first
    | (have hgo := H2.out; clear hgo; go_at_call 61; refine (CKS.out _ (HQ.out _ H2.out).1).mono ?_; rintro e w3 ⟨ka3, kp3, rfl, ho, hky⟩; have HO3 : Hid (OwnB 38 16 w2 w3 (.slice ka3 NK kp3) NK ((keysV S).flatMap kc)) := ho; have HKS : Hid (Kys (keysV S)) := hky; clear ho hky)
    | (have hgo := H1.out; clear hgo; go_at_call 34; refine (CS.out _ (HQ.out _ H1.out).1).mono ?_; rintro e w2 ⟨rfl, hb⟩; have H2 : Hid (Below W0.heap.size W0 w2) := H1.out.trans (hb.mono H1.out.size); obtain ⟨_, q0, _, _⟩ := HQ.out w2 H2.out; clear hb)
    | (go_at_call 60; rw [HW0.out]; refine (CGE.out _ HB0.out).mono ?_; rintro e w1 ⟨rfl, hb⟩; have H1 : Hid (Below W0.heap.size W0 w1) := hb; obtain ⟨z0, _, _, _, _, _⟩ := FE.out w1 hb; clear hb))
  clear z0 q0
  go_loopw [5, 6, 7] (fun lv fv iv wr => ∃ (i m : Nat) (fl : Bool) (ka : Option Addr) (kp : Nat), i ≤ N ∧ iv = .int .i64 i ∧ fv = .bool fl ∧ lv = .slice ka m kp ∧ Hid (m = NK + i) ∧ Hid (OwnB 38 16 w2 wr (.slice ka m kp) m ((keysV S ++ (l.take i).map (fun W => W.k)).flatMap kc)) ∧ Hid (fl = (l.take i).any (fun W => decide (50 ≤ kMany S W.k))) ∧ Hid ((l.take i).any cf = false)) (fun _ _ iv _ => N - (intOf iv).toNat)
  case atStart => exact ⟨0, NK, false, ka3, kp3, Nat.zero_le _, rfl, rfl, rfl, rfl, by have := HO3.out; show OwnB _ _ _ _ _ _ _; rw [List.take_zero, List.map_nil, List.append_nil]; exact this, rfl, rfl⟩
  case round =>
    obtain ⟨i, m, fl, ka, kp, hi, rfl, rfl, rfl, HMN, HO, HFL0, HCF0⟩ := hrel
    have hi0 : (0 : Int) ≤ (i : Int) := by omega
    have HBR : Hid (Below W0.heap.size W0 wr) := H2.out.trans (HO.out.below.mono H2.out.size)
    obtain ⟨_, _, _, _, _, z5⟩ := FE.out wr HBR.out
    by_cases hlt : i < N
    · have h1 : (i : Int) < (N : Int) := by omega
      obtain ⟨W, hW⟩ : ∃ W, l[i]? = some W := ⟨_, List.getElem?_eq_getElem (by rw [HL.out]; exact hlt)⟩
      have hm1 : m + 1 ≤ 1000000 := by have := HMN.out; omega
      have HWI : Hid (l[i]? = some W) := hW
      obtain ⟨b0, o0, ha0, hwa, hwo⟩ := HEW.out.wr.wrt hW
      have ha0 : a = some ⟨b0, o0, none⟩ := ha0
      obtain ⟨K1, hK1⟩ : ∃ K, K = W.k := ⟨_, rfl⟩
      have KY1 : Hid (Ky K1) := by rw [hK1]; exact hwo.key
      have HAT : Hid (KeyAt wr b0 (o0 + i * 18) K1) := by rw [hK1]; exact (hwa.past (HQ.out _ HBR.out).1).key hwo.key
      have HBX : Hid (∀ Bx, Bx = (wr.alloc (.cells #[.int .u8 0, .int .u8 0, .int .u8 0, .int .u8 0, .int .u8 0, .int .u8 0, .int .u8 0, .int .u8 0, .int .u8 0, .int .u8 0, .int .u8 0, .int .u8 0, .int .u8 0, .int .u8 0, .int .u8 0, .int .u8 0] 38)).setCells wr.heap.size 0 (K1.map (Value.int .u8)) → Below wr.heap.size wr Bx ∧ wr.heap.size < Bx.heap.size ∧ KeyAt Bx wr.heap.size 0 K1) := fun Bx hBx => key_boxed KY1.out hBx
      obtain ⟨nt, hnt⟩ : ∃ z, z = newT (newestV S K1) := ⟨_, rfl⟩
      obtain ⟨nn, hnn⟩ : ∃ z, z = newN (newestV S K1) := ⟨_, rfl⟩
      obtain ⟨ok, hok⟩ : ∃ z, z = (newestV S K1).isSome := ⟨_, rfl⟩
      obtain ⟨hd, hhd⟩ : ∃ z, z = (holdM M K1).isSome := ⟨_, rfl⟩
      obtain ⟨hx, hhx⟩ : ∃ z, z = (orE (holdM M K1)).e.id := ⟨_, rfl⟩
      obtain ⟨cn, hcn⟩ : ∃ z, z = cmpS nt nn es em := ⟨_, rfl⟩
      obtain ⟨km, hkm⟩ : ∃ z, z = kMany S K1 := ⟨_, rfl⟩
      have CN : Hid (∀ u, Below w.heap.size w u → Calls Tryz.prog 62 #[.pointer (some ⟨s, 0, none⟩), kv K1] u fun e w' => e = .returned (.tuple #[.agg #[.int .i64 nt, .int .u8 nn], .bool ok]) ∧ Below u.heap.size u w') := fun u hu => by rw [hnt, hnn, hok]; exact rnewest_any B s S K1 KY1.out u (HP.out.past hu).sto
      have CHO : Hid (∀ u, Below w.heap.size w u → Calls Tryz.prog 63 #[.pointer (some ⟨tb, 0, none⟩), kv K1] u fun e w' => e = .returned (.tuple #[.int .i64 hx, .bool hd]) ∧ Below u.heap.size u w') := fun u hu => by rw [hhx, hhd]; exact rHolder_any B tb M K1 KY1.out u (HP.out.past hu).tab
      have CCN : Hid (∀ u, Calls Tryz.prog 39 #[.agg #[.int .i64 nt, .int .u8 nn], .agg #[.int .i64 es, .int .u8 em]] u fun e w' => e = .returned (.int .i64 cn) ∧ Below u.heap.size u w') := fun u => by rw [hcn]; exact rcmp6_any nt nn es em u
      have CCH : Hid (∀ u, Below w.heap.size w u → Calls Tryz.prog 64 #[.pointer (some ⟨s, 0, none⟩), kv K1] u fun e w' => (∃ ca cp, e = .returned (.slice ca km cp)) ∧ Below u.heap.size u w') := fun u hu => by
        rw [hkm]
        refine (rChain_any B s S K1 KY1.out u (HP.out.past hu).sto).mono ?_
        rintro e w' ⟨ca, cp, rfl, hc⟩
        exact ⟨⟨ca, cp, rfl⟩, hc.own.below⟩
      have HCW : Hid (cf W = (hd || (ok && decide (0 < cn)))) := by show _ = _; rw [HCFD.out, hhd, hok, hcn, hnt, hnn, hK1]
      have HZ3W : Hid (cf W = true → Z = (9, ⟨S, ents M, O⟩)) := fun e => HZ3.out (List.any_eq_true.2 ⟨W, List.mem_of_getElem? HWI.out, e⟩)
      have HFN : Hid (∀ b, b = (fl || decide ((50 : Int) ≤ (km : Int))) → b = (l.take (i + 1)).any (fun W => decide (50 ≤ kMany S W.k))) := fun b e => by
        rw [e, take_any HWI.out, ← HFL0.out, hkm, hK1]
        congr 1
        exact decide_eq_decide.2 (by omega)
      have HCFN : Hid (cf W = false → (l.take (i + 1)).any cf = false) := fun e => by rw [take_any HWI.out, HCF0.out, e]; rfl
      have HFL : Hid ((keysV S ++ (l.take i).map (fun W => W.k)).flatMap kc ++ kc K1 = (keysV S ++ (l.take (i + 1)).map (fun W => W.k)).flatMap kc) := by show _ = _; rw [take_map_next HWI.out, ← hK1, ← List.append_assoc, List.flatMap_append, List.flatMap_append, List.flatMap_append]; simp
      subst ha0
      clear hW hwa hwo hK1 hnt hnn hok hhd hhx hcn hkm
      go_wp2_with (first
        | (have hgo := HBX.out; clear hgo; (with_reducible show wpList _ _ _ (Oper.mk none _ _ _ _ _ :: _) _ _); refine wpList_store_keyU (by rfl) _ _ (by rfl) wr.heap.size 0 zeroK K1 (by rfl) (by rfl) KY1.out (keyMine_zeroW wr) ?_; intro Bx hBx; have H4 : Hid (Below wr.heap.size wr Bx ∧ wr.heap.size < Bx.heap.size ∧ KeyAt Bx wr.heap.size 0 K1) := HBX.out Bx hBx; clear hBx HBX)
        | (have hgo := HAT.out; clear hgo; (with_reducible show wpList _ _ _ (Oper.mk (some 40) _ _ _ _ _ :: _) _ _); refine wpList_load_keyN 40 (by rfl) (by rfl) _ (by rfl) b0 (o0 + i * 18) (by rfl) K1 KY1.out HAT.out ?_))
      have FW : Hid (∀ u, Below Bx.heap.size Bx u → Below W0.heap.size W0 u) := fun u hu => HBR.out.trans ((H4.out.1.trans (hu.mono H4.out.1.size)).mono HBR.out.size)
      have FK1 : Hid (∀ u, Below Bx.heap.size Bx u → KeyAt u wr.heap.size 0 K1) := fun u hu => H4.out.2.2.past hu
      clear z5
      refine wp_region_noPanic ?_
      refine wp_region_held_drew (S := fun u => Below Bx.heap.size Bx u) (by kernel_rfl) ?_ (fun hHeld => ?_)
      · exact (Below.refl _ _).drew
      refine wpAnyH_take (i := 0) (v := ?_) rfl (by kernel_rfl) (by kernel_rfl) (by kernel_rfl) (fun _ _ _ h => h) (Or.inl ⟨by rfl, ?_⟩) hHeld ?_
      rotate_left
      · intro u hSu
        (go_simp) <;> (with_reducible rfl)
      change wpAnyH _ _ _ _ _ _ _ (Act.put _ (some 42) _) _
      simp only [Act.put, List.setIfInBounds_toArray, List.set_cons_zero, List.set_cons_succ]
      refine wpAnyH_take (i := 1) (v := ?_) rfl (by kernel_rfl) (by kernel_rfl) (by kernel_rfl) (fun _ _ _ h => h) (Or.inl ⟨by rfl, ?_⟩) hHeld ?_
      rotate_left
      · intro u hSu
        (go_simp) <;> (with_reducible rfl)
      change wpAnyH _ _ _ _ _ _ _ (Act.put _ (some 43) _) _
      simp only [Act.put, List.setIfInBounds_toArray, List.set_cons_zero, List.set_cons_succ]
      refine wpAnyH_take (i := 2) (v := ?_) rfl (by kernel_rfl) (by kernel_rfl) (by kernel_rfl) (fun _ _ _ h => h) (Or.inl ⟨by rfl, ?_⟩) hHeld ?_
      rotate_left
      · intro u hSu
        (go_simp) <;> (with_reducible rfl)
      change wpAnyH _ _ _ _ _ _ _ (Act.put _ (some 44) _) _
      simp only [Act.put, List.setIfInBounds_toArray, List.set_cons_zero, List.set_cons_succ]
      refine wpAnyH_take (i := 3) (v := ?_) rfl (by kernel_rfl) (by kernel_rfl) (by kernel_rfl) (fun _ _ _ h => h) (Or.inl ⟨by rfl, ?_⟩) hHeld ?_
      rotate_left
      · intro u hSu
        have r0 := (HQ.out u (FW.out u hSu)).2.1
        (go_simp) <;> (with_reducible rfl)
      change wpAnyH _ _ _ _ _ _ _ (Act.put _ (some 45) _) _
      simp only [Act.put, List.setIfInBounds_toArray, List.set_cons_zero, List.set_cons_succ]
      refine wpAnyH_take (i := 4) (v := kv K1) rfl (by kernel_rfl) (by kernel_rfl) (by kernel_rfl) (fun _ _ _ h => h) (yieldsIf_load_mid (by rfl) _ _ rfl _ _ rfl (K1.map (Value.int .u8)) _ (fun u hu => (FK1.out u hu).range KY1.out) Tryz.underlying38 rfl (info_keyl K1 KY1.out)) hHeld ?_
      change wpAnyH _ _ _ _ _ _ _ (Act.put _ (some 46) _) _
      simp only [Act.put, List.setIfInBounds_toArray, List.set_cons_zero, List.set_cons_succ]
      refine wpAnyH_ready (rs := [5, 9]) (by kernel_rfl) (by simp) ?_
      refine AllReadyH.cons rfl (fun K hK => ?_) ?_
      · go_simp
        go_at_call 62
        refine (CN.out _ (HQ.out _ (FW.out _ hHeld)).1).mono ?_
        rintro e x1 ⟨rfl, hb1⟩
        have B1 : Hid (Below Bx.heap.size Bx x1) := hHeld.trans (hb1.mono hHeld.size)
        clear hb1
        refine hK.out _ _ ?_ (fun hHeld2 => ?_)
        · exact B1.out
        clear hK K hHeld
        have hHeld := hHeld2
        clear hHeld2
        refine wpAnyH_take (i := 6) (v := ?_) rfl (by kernel_rfl) (by kernel_rfl) (by kernel_rfl) (fun _ _ _ h => h) (Or.inl ⟨by rfl, ?_⟩) hHeld ?_
        rotate_left
        · intro u hSu
          (go_simp) <;> (with_reducible rfl)
        change wpAnyH _ _ _ _ _ _ _ (Act.put _ (some 41) _) _
        simp only [Act.put, List.setIfInBounds_toArray, List.set_cons_zero, List.set_cons_succ]
        refine wpAnyH_take (i := 7) (v := ?_) rfl (by kernel_rfl) (by kernel_rfl) (by kernel_rfl) (fun _ _ _ h => h) (Or.inl ⟨by rfl, ?_⟩) hHeld ?_
        rotate_left
        · intro u hSu
          (go_simp) <;> (with_reducible rfl)
        change wpAnyH _ _ _ _ _ _ _ (Act.put _ (some 48) _) _
        simp only [Act.put, List.setIfInBounds_toArray, List.set_cons_zero, List.set_cons_succ]
        refine wpAnyH_take (i := 8) (v := ?_) rfl (by kernel_rfl) (by kernel_rfl) (by kernel_rfl) (fun _ _ _ h => h) (Or.inl ⟨by rfl, ?_⟩) hHeld ?_
        rotate_left
        · intro u hSu
          (go_simp) <;> (with_reducible rfl)
        change wpAnyH _ _ _ _ _ _ _ (Act.put _ (some 49) _) _
        simp only [Act.put, List.setIfInBounds_toArray, List.set_cons_zero, List.set_cons_succ]
        refine wpAnyH_ready (rs := [9]) (by kernel_rfl) (by simp) ?_
        refine AllReadyH.cons rfl (fun K hK => ?_) AllReadyH.nil
        go_simp
        refine hK.out _ _ ?_ (fun hHeld2 => ?_)
        · exact hHeld.alloc hHeld.size _
        clear hK K hHeld
        have hHeld := hHeld2
        clear hHeld2
        refine wpAnyH_ready (rs := [10]) (by kernel_rfl) (by simp) ?_
        refine AllReadyH.cons rfl (fun K hK => ?_) AllReadyH.nil
        rw [if_pos (by rfl)]
        refine wp_store_mid 28 _ _ rfl (x1.heap.size) 0 #[.int .i64 nt, .int .u8 nn] rfl rfl (StMine.made x1 28 0 0).there (by rw [info_st]; rfl) (all_oneCell_toArray (fun u hu => by simp at hu; rcases hu with rfl | rfl <;> rfl)) ?_
        generalize hY : World.setCells _ (x1.heap.size) 0 (#[Value.int .i64 nt, Value.int .u8 nn] : Array Value).toList = Y
        have HVY : Hid (StMine Y (x1.heap.size) nt nn) := (by rw [← hY]; exact (StMine.made x1 28 0 0).store)
        have HBY : Hid (Below Bx.heap.size Bx Y) := (by rw [← hY]; exact below_cells (B1.out.size) hHeld)
        clear hY
        refine hK.out _ _ ?_ (fun hHeld2 => ?_)
        · exact HBY.out
        clear hK K hHeld
        have hHeld := hHeld2
        clear hHeld2
        refine wpAnyH_take (i := 11) (v := ?_) rfl (by kernel_rfl) (by kernel_rfl) (by kernel_rfl) (fun _ _ _ h => h) (Or.inl ⟨by rfl, ?_⟩) hHeld ?_
        rotate_left
        · intro u hSu
          (go_simp) <;> (with_reducible rfl)
        change wpAnyH _ _ _ _ _ _ _ (Act.put _ (some 10) _) _
        simp only [Act.put, List.setIfInBounds_toArray]
        refine wpAnyH_done (by kernel_rfl) ?_ _
        refine NoPanic.normal ?_
        obtain ⟨b7, hb7⟩ : ∃ b7, b7 = x1.heap.size := ⟨_, rfl⟩
        rw [← hb7] at HVY ⊢
        clear hb7
        have FWY : Hid (∀ u, Below Y.heap.size Y u → Below W0.heap.size W0 u) := fun u hu => FW.out u (HBY.out.trans (hu.mono HBY.out.size))
        have FKY : Hid (∀ u, Below Y.heap.size Y u → KeyAt u wr.heap.size 0 K1) := fun u hu => FK1.out u (HBY.out.trans (hu.mono HBY.out.size))
        go_wp2
        refine wp_region_noPanic ?_
        refine wp_region_held_drew (S := fun u => Below Y.heap.size Y u) (by kernel_rfl) ?_ (fun hHeld => ?_)
        · exact (Below.refl _ _).drew
        refine wpAnyH_take (i := 0) (v := ?_) rfl (by kernel_rfl) (by kernel_rfl) (by kernel_rfl) (fun _ _ _ h => h) (Or.inl ⟨by rfl, ?_⟩) hHeld ?_
        rotate_left
        · intro u hSu
          (go_simp) <;> (with_reducible rfl)
        change wpAnyH _ _ _ _ _ _ _ (Act.put _ (some 51) _) _
        simp only [Act.put, List.setIfInBounds_toArray, List.set_cons_zero, List.set_cons_succ]
        refine wpAnyH_take (i := 1) (v := ?_) rfl (by kernel_rfl) (by kernel_rfl) (by kernel_rfl) (fun _ _ _ h => h) (Or.inl ⟨by rfl, ?_⟩) hHeld ?_
        rotate_left
        · intro u hSu
          (go_simp) <;> (with_reducible rfl)
        change wpAnyH _ _ _ _ _ _ _ (Act.put _ (some 52) _) _
        simp only [Act.put, List.setIfInBounds_toArray, List.set_cons_zero, List.set_cons_succ]
        refine wpAnyH_take (i := 2) (v := ?_) rfl (by kernel_rfl) (by kernel_rfl) (by kernel_rfl) (fun _ _ _ h => h) (Or.inl ⟨by rfl, ?_⟩) hHeld ?_
        rotate_left
        · intro u hSu
          (go_simp) <;> (with_reducible rfl)
        change wpAnyH _ _ _ _ _ _ _ (Act.put _ (some 53) _) _
        simp only [Act.put, List.setIfInBounds_toArray, List.set_cons_zero, List.set_cons_succ]
        refine wpAnyH_take (i := 3) (v := ?_) rfl (by kernel_rfl) (by kernel_rfl) (by kernel_rfl) (fun _ _ _ h => h) (Or.inl ⟨by rfl, ?_⟩) hHeld ?_
        rotate_left
        · intro u hSu
          have r1 := (HQ.out u (FWY.out u hSu)).2.2.1
          (go_simp) <;> (with_reducible rfl)
        change wpAnyH _ _ _ _ _ _ _ (Act.put _ (some 54) _) _
        simp only [Act.put, List.setIfInBounds_toArray, List.set_cons_zero, List.set_cons_succ]
        refine wpAnyH_take (i := 4) (v := kv K1) rfl (by kernel_rfl) (by kernel_rfl) (by kernel_rfl) (fun _ _ _ h => h) (yieldsIf_load_mid (by rfl) _ _ rfl _ _ rfl (K1.map (Value.int .u8)) _ (fun u hu => (FKY.out u hu).range KY1.out) Tryz.underlying38 rfl (info_keyl K1 KY1.out)) hHeld ?_
        change wpAnyH _ _ _ _ _ _ _ (Act.put _ (some 55) _) _
        simp only [Act.put, List.setIfInBounds_toArray, List.set_cons_zero, List.set_cons_succ]
        refine wpAnyH_ready (rs := [5]) (by kernel_rfl) (by simp) ?_
        refine AllReadyH.cons rfl (fun K hK => ?_) AllReadyH.nil
        go_simp
        go_at_call 63
        refine (CHO.out _ (HQ.out _ (FWY.out _ hHeld)).1).mono ?_
        rintro e x2 ⟨rfl, hb2⟩
        have B2 : Hid (Below Y.heap.size Y x2) := hHeld.trans (hb2.mono hHeld.size)
        clear hb2
        refine hK.out _ _ ?_ (fun hHeld2 => ?_)
        · exact B2.out
        clear hK K hHeld
        have hHeld := hHeld2
        clear hHeld2
        refine wpAnyH_take (i := 6) (v := ?_) rfl (by kernel_rfl) (by kernel_rfl) (by kernel_rfl) (fun _ _ _ h => h) (Or.inl ⟨by rfl, ?_⟩) hHeld ?_
        rotate_left
        · intro u hSu
          (go_simp) <;> (with_reducible rfl)
        change wpAnyH _ _ _ _ _ _ _ (Act.put _ (some 50) _) _
        simp only [Act.put, List.setIfInBounds_toArray, List.set_cons_zero, List.set_cons_succ]
        refine wpAnyH_take (i := 7) (v := ?_) rfl (by kernel_rfl) (by kernel_rfl) (by kernel_rfl) (fun _ _ _ h => h) (Or.inl ⟨by rfl, ?_⟩) hHeld ?_
        rotate_left
        · intro u hSu
          (go_simp) <;> (with_reducible rfl)
        change wpAnyH _ _ _ _ _ _ _ (Act.put _ (some 57) _) _
        simp only [Act.put, List.setIfInBounds_toArray, List.set_cons_zero, List.set_cons_succ]
        refine wpAnyH_take (i := 8) (v := ?_) rfl (by kernel_rfl) (by kernel_rfl) (by kernel_rfl) (fun _ _ _ h => h) (Or.inl ⟨by rfl, ?_⟩) hHeld ?_
        rotate_left
        · intro u hSu
          (go_simp) <;> (with_reducible rfl)
        change wpAnyH _ _ _ _ _ _ _ (Act.put _ (some 58) _) _
        simp only [Act.put, List.setIfInBounds_toArray, List.set_cons_zero, List.set_cons_succ]
        refine wpAnyH_take (i := 9) (v := ?_) rfl (by kernel_rfl) (by kernel_rfl) (by kernel_rfl) (fun _ _ _ h => h) (Or.inl ⟨by rfl, ?_⟩) hHeld ?_
        rotate_left
        · intro u hSu
          (go_simp) <;> (with_reducible rfl)
        change wpAnyH _ _ _ _ _ _ _ (Act.put _ (some 11) _) _
        simp only [Act.put, List.setIfInBounds_toArray, List.set_cons_zero, List.set_cons_succ]
        refine wpAnyH_take (i := 10) (v := ?_) rfl (by kernel_rfl) (by kernel_rfl) (by kernel_rfl) (fun _ _ _ h => h) (Or.inl ⟨by rfl, ?_⟩) hHeld ?_
        rotate_left
        · intro u hSu
          (go_simp) <;> (with_reducible rfl)
        change wpAnyH _ _ _ _ _ _ _ (Act.put _ (some 12) _) _
        simp only [Act.put, List.setIfInBounds_toArray, List.set_cons_zero, List.set_cons_succ]
        refine wpAnyH_done (by kernel_rfl) ?_ _
        refine NoPanic.normal ?_
        have W2 : Hid (Below W0.heap.size W0 x2) := FWY.out _ B2.out
        have FK2 : Hid (∀ u, Below x2.heap.size x2 u → KeyAt u wr.heap.size 0 K1) := fun u hu => FKY.out u (B2.out.trans (hu.mono B2.out.size))
        have FW2 : Hid (∀ u, Below x2.heap.size x2 u → Below W0.heap.size W0 u) := fun u hu => W2.out.trans (hu.mono W2.out.size)
        have HX2 : Hid (Below wr.heap.size wr x2) := H4.out.1.trans ((HBY.out.trans (B2.out.mono HBY.out.size)).mono H4.out.1.size)
        cases hd with
        | true =>
          have HF : Hid (Z = (9, ⟨S, ents M, O⟩)) := HZ3W.out (HCW.out.trans (by simp))
          go_wp2
          go_ret
          exact ⟨by rw [HF.out]; rfl, by rw [HF.out]; exact HP.out.stay (HQ.out _ (FW2.out _ (Below.refl _ _))).1⟩
        | false =>
          cases ok with
          | false =>
            have HNC : Hid (cf W = false) := HCW.out.trans (by simp)
            go_wp2
            have FV : Hid (∀ u, Below x2.heap.size x2 u → Below x2.heap.size x2 u) := fun u hu => hu
            have FKV : Hid (∀ u, Below x2.heap.size x2 u → KeyAt u wr.heap.size 0 K1) := fun u hu => FK2.out u hu
            cases fl with
            | true =>
              go_wp2
              refine wp_region_noPanic ?_
              refine wp_region_held_drew (S := fun u => Below x2.heap.size x2 u) (by kernel_rfl) ?_ (fun hHeld => ?_)
              · exact (Below.refl _ _).drew
              refine wpAnyH_take (i := 0) (v := ?_) rfl (by kernel_rfl) (by kernel_rfl) (by kernel_rfl) (fun _ _ _ h => h) (Or.inl ⟨by rfl, ?_⟩) hHeld ?_
              rotate_left
              · intro u hSu
                (go_simp) <;> (with_reducible rfl)
              change wpAnyH _ _ _ _ _ _ _ (Act.put _ (some 70) _) _
              simp only [Act.put, List.setIfInBounds_toArray, List.set_cons_zero, List.set_cons_succ]
              refine wpAnyH_take (i := 1) (v := ?_) rfl (by kernel_rfl) (by kernel_rfl) (by kernel_rfl) (fun _ _ _ h => h) (Or.inl ⟨by rfl, ?_⟩) hHeld ?_
              rotate_left
              · intro u hSu
                (go_simp) <;> (with_reducible rfl)
              change wpAnyH _ _ _ _ _ _ _ (Act.put _ (some 71) _) _
              simp only [Act.put, List.setIfInBounds_toArray, List.set_cons_zero, List.set_cons_succ]
              refine wpAnyH_take (i := 2) (v := undef) rfl (by kernel_rfl) (by kernel_rfl) (by kernel_rfl) (fun _ _ _ h => h) (Or.inr ⟨by rfl, rfl⟩) hHeld ?_
              change wpAnyH _ _ _ _ _ _ _ (Act.put _ (some 72) _) _
              simp only [Act.put, List.setIfInBounds_toArray, List.set_cons_zero, List.set_cons_succ]
              refine wpAnyH_take (i := 3) (v := undef) rfl (by kernel_rfl) (by kernel_rfl) (by kernel_rfl) (fun _ _ _ h => h) (Or.inr ⟨by rfl, rfl⟩) hHeld ?_
              change wpAnyH _ _ _ _ _ _ _ (Act.put _ (some 73) _) _
              simp only [Act.put, List.setIfInBounds_toArray, List.set_cons_zero, List.set_cons_succ]
              refine wpAnyH_take (i := 4) (v := undef) rfl (by kernel_rfl) (by kernel_rfl) (by kernel_rfl) (fun _ _ _ h => h) (Or.inr ⟨by rfl, rfl⟩) hHeld ?_
              change wpAnyH _ _ _ _ _ _ _ (Act.put _ (some 74) _) _
              simp only [Act.put, List.setIfInBounds_toArray, List.set_cons_zero, List.set_cons_succ]
              refine wpAnyH_take (i := 5) (v := undef) rfl (by kernel_rfl) (by kernel_rfl) (by kernel_rfl) (fun _ _ _ h => h) (Or.inr ⟨by rfl, rfl⟩) hHeld ?_
              change wpAnyH _ _ _ _ _ _ _ (Act.put _ (some 75) _) _
              simp only [Act.put, List.setIfInBounds_toArray, List.set_cons_zero, List.set_cons_succ]
              refine wpAnyH_take (i := 6) (v := undef) rfl (by kernel_rfl) (by kernel_rfl) (by kernel_rfl) (fun _ _ _ h => h) (Or.inr ⟨by rfl, rfl⟩) hHeld ?_
              change wpAnyH _ _ _ _ _ _ _ (Act.put _ (some 76) _) _
              simp only [Act.put, List.setIfInBounds_toArray, List.set_cons_zero, List.set_cons_succ]
              refine wpAnyH_take (i := 7) (v := undef) rfl (by kernel_rfl) (by kernel_rfl) (by kernel_rfl) (fun _ _ _ h => h) (Or.inr ⟨by rfl, rfl⟩) hHeld ?_
              change wpAnyH _ _ _ _ _ _ _ (Act.put _ (some 77) _) _
              simp only [Act.put, List.setIfInBounds_toArray, List.set_cons_zero, List.set_cons_succ]
              refine wpAnyH_take (i := 8) (v := undef) rfl (by kernel_rfl) (by kernel_rfl) (by kernel_rfl) (fun _ _ _ h => h) (Or.inr ⟨by rfl, rfl⟩) hHeld ?_
              change wpAnyH _ _ _ _ _ _ _ (Act.put _ (some 78) _) _
              simp only [Act.put, List.setIfInBounds_toArray, List.set_cons_zero, List.set_cons_succ]
              refine wpAnyH_take (i := 9) (v := undef) rfl (by kernel_rfl) (by kernel_rfl) (by kernel_rfl) (fun _ _ _ h => h) (Or.inr ⟨by rfl, rfl⟩) hHeld ?_
              change wpAnyH _ _ _ _ _ _ _ (Act.put _ (some 79) _) _
              simp only [Act.put, List.setIfInBounds_toArray, List.set_cons_zero, List.set_cons_succ]
              refine wpAnyH_take (i := 10) (v := ?_) rfl (by kernel_rfl) (by kernel_rfl) (by kernel_rfl) (fun _ _ _ h => h) (Or.inl ⟨by rfl, ?_⟩) hHeld ?_
              rotate_left
              · intro u hSu
                (go_simp) <;> (with_reducible rfl)
              change wpAnyH _ _ _ _ _ _ _ (Act.put _ (some 80) _) _
              simp only [Act.put, List.setIfInBounds_toArray, List.set_cons_zero, List.set_cons_succ]
              refine wpAnyH_take (i := 11) (v := ?_) rfl (by kernel_rfl) (by kernel_rfl) (by kernel_rfl) (fun _ _ _ h => h) (Or.inl ⟨by rfl, ?_⟩) hHeld ?_
              rotate_left
              · intro u hSu
                (go_simp) <;> (with_reducible rfl)
              change wpAnyH _ _ _ _ _ _ _ (Act.put _ (some 6) _) _
              simp only [Act.put, List.setIfInBounds_toArray, List.set_cons_zero, List.set_cons_succ]
              refine wpAnyH_done (by kernel_rfl) ?_ _
              refine NoPanic.normal ?_
              have HVX : Hid (Below x2.heap.size x2 x2.drew) := ((FV.out _ (Below.refl _ _)).drew)
              have HOX : Hid (OwnB 38 16 w2 x2.drew (.slice ka m kp) m ((keysV S ++ (l.take i).map (fun W => W.k)).flatMap kc)) := HO.out.past (HX2.out.trans (HVX.out.mono HX2.out.size))
              have FKX : Hid (KeyAt x2.drew wr.heap.size 0 K1) := FK2.out _ HVX.out
              go_wp2_with (first | ((with_reducible show wpList _ _ _ (Oper.mk (some 82) _ _ _ _ _ :: _) _ _); refine wpList_load_keyD 82 (by rfl) (by rfl) _ (by rfl) wr.heap.size 0 (by rfl) K1 KY1.out FKX.out ?_) | ((with_reducible show wpList _ _ _ (Oper.mk (some 83) _ _ _ _ _ :: _) _ _); refine wpList_build_key1 83 (by rfl) (by rfl) _ (by rfl) K1 KY1.out (by rfl) ?_) | (at_builtin; refine wpList_own keyEl (w0 := w2) rfl (.tmp 81) (.tmp 83) rfl _ m _ (kc K1) rfl (HOX.out.alloc _) _ _ _ rfl (by rw [kc_len KY1.out]) (lies_made _ _ _) (ints_oneCell _ _) (fun h => by cases h) (m + 1) rfl hm1 _ HFL.out ?_; intro a6 c6 w6 h1 h2; have O6 : Hid (OwnB 38 16 w2 w6 (.slice a6 (m + 1) c6) (m + 1) ((keysV S ++ (l.take (i + 1)).map (fun W => W.k)).flatMap kc)) := h1; clear h1 h2))
              go_roundw
              case rel => exact ⟨i + 1, m + 1, _, a6, c6, by omega, by go_num, rfl, rfl, (by have := HMN.out; show _ = _; omega), O6, HFN.out _ rfl, HCFN.out HNC.out⟩
              case measure => simp [intOf]; omega
            | false =>
              go_wp2
              refine wp_region_noPanic ?_
              refine wp_region_held_drew (S := fun u => Below x2.heap.size x2 u) (by kernel_rfl) ?_ (fun hHeld => ?_)
              · exact (Below.refl _ _).drew
              refine wpAnyH_take (i := 0) (v := ?_) rfl (by kernel_rfl) (by kernel_rfl) (by kernel_rfl) (fun _ _ _ h => h) (Or.inl ⟨by rfl, ?_⟩) hHeld ?_
              rotate_left
              · intro u hSu
                (go_simp) <;> (with_reducible rfl)
              change wpAnyH _ _ _ _ _ _ _ (Act.put _ (some 70) _) _
              simp only [Act.put, List.setIfInBounds_toArray, List.set_cons_zero, List.set_cons_succ]
              refine wpAnyH_take (i := 1) (v := ?_) rfl (by kernel_rfl) (by kernel_rfl) (by kernel_rfl) (fun _ _ _ h => h) (Or.inl ⟨by rfl, ?_⟩) hHeld ?_
              rotate_left
              · intro u hSu
                (go_simp) <;> (with_reducible rfl)
              change wpAnyH _ _ _ _ _ _ _ (Act.put _ (some 71) _) _
              simp only [Act.put, List.setIfInBounds_toArray, List.set_cons_zero, List.set_cons_succ]
              refine wpAnyH_take (i := 2) (v := ?_) rfl (by kernel_rfl) (by kernel_rfl) (by kernel_rfl) (fun _ _ _ h => h) (Or.inl ⟨by rfl, ?_⟩) hHeld ?_
              rotate_left
              · intro u hSu
                (go_simp) <;> (with_reducible rfl)
              change wpAnyH _ _ _ _ _ _ _ (Act.put _ (some 72) _) _
              simp only [Act.put, List.setIfInBounds_toArray, List.set_cons_zero, List.set_cons_succ]
              refine wpAnyH_take (i := 3) (v := ?_) rfl (by kernel_rfl) (by kernel_rfl) (by kernel_rfl) (fun _ _ _ h => h) (Or.inl ⟨by rfl, ?_⟩) hHeld ?_
              rotate_left
              · intro u hSu
                (go_simp) <;> (with_reducible rfl)
              change wpAnyH _ _ _ _ _ _ _ (Act.put _ (some 73) _) _
              simp only [Act.put, List.setIfInBounds_toArray, List.set_cons_zero, List.set_cons_succ]
              refine wpAnyH_take (i := 4) (v := ?_) rfl (by kernel_rfl) (by kernel_rfl) (by kernel_rfl) (fun _ _ _ h => h) (Or.inl ⟨by rfl, ?_⟩) hHeld ?_
              rotate_left
              · intro u hSu
                (go_simp) <;> (with_reducible rfl)
              change wpAnyH _ _ _ _ _ _ _ (Act.put _ (some 74) _) _
              simp only [Act.put, List.setIfInBounds_toArray, List.set_cons_zero, List.set_cons_succ]
              refine wpAnyH_take (i := 5) (v := ?_) rfl (by kernel_rfl) (by kernel_rfl) (by kernel_rfl) (fun _ _ _ h => h) (Or.inl ⟨by rfl, ?_⟩) hHeld ?_
              rotate_left
              · intro u hSu
                have r0 := (HQ.out u (FW2.out u (FV.out u hSu))).2.1
                (go_simp) <;> (with_reducible rfl)
              change wpAnyH _ _ _ _ _ _ _ (Act.put _ (some 75) _) _
              simp only [Act.put, List.setIfInBounds_toArray, List.set_cons_zero, List.set_cons_succ]
              refine wpAnyH_take (i := 6) (v := kv K1) rfl (by kernel_rfl) (by kernel_rfl) (by kernel_rfl) (fun _ _ _ h => h) (yieldsIf_load_mid (by rfl) _ _ rfl _ _ rfl (K1.map (Value.int .u8)) _ (fun u hu => (FKV.out u hu).range KY1.out) Tryz.underlying38 rfl (info_keyl K1 KY1.out)) hHeld ?_
              change wpAnyH _ _ _ _ _ _ _ (Act.put _ (some 76) _) _
              simp only [Act.put, List.setIfInBounds_toArray, List.set_cons_zero, List.set_cons_succ]
              refine wpAnyH_ready (rs := [7]) (by kernel_rfl) (by simp) ?_
              refine AllReadyH.cons rfl (fun K hK => ?_) AllReadyH.nil
              go_simp
              go_at_call 64
              refine (CCH.out _ (HQ.out _ (FW2.out _ (FV.out _ hHeld))).1).mono ?_
              rintro e x5 ⟨⟨ca, cp, rfl⟩, hb5⟩
              have B5 : Hid (Below x2.heap.size x2 x5) := hHeld.trans (hb5.mono hHeld.size)
              clear hb5
              refine hK.out _ _ ?_ (fun hHeld2 => ?_)
              · exact B5.out
              clear hK K hHeld
              have hHeld := hHeld2
              clear hHeld2
              refine wpAnyH_take (i := 8) (v := ?_) rfl (by kernel_rfl) (by kernel_rfl) (by kernel_rfl) (fun _ _ _ h => h) (Or.inl ⟨by rfl, ?_⟩) hHeld ?_
              rotate_left
              · intro u hSu
                (go_simp) <;> (with_reducible rfl)
              change wpAnyH _ _ _ _ _ _ _ (Act.put _ (some 78) _) _
              simp only [Act.put, List.setIfInBounds_toArray, List.set_cons_zero, List.set_cons_succ]
              refine wpAnyH_take (i := 9) (v := ?_) rfl (by kernel_rfl) (by kernel_rfl) (by kernel_rfl) (fun _ _ _ h => h) (Or.inl ⟨by rfl, ?_⟩) hHeld ?_
              rotate_left
              · intro u hSu
                (go_simp) <;> (with_reducible rfl)
              change wpAnyH _ _ _ _ _ _ _ (Act.put _ (some 79) _) _
              simp only [Act.put, List.setIfInBounds_toArray, List.set_cons_zero, List.set_cons_succ]
              refine wpAnyH_take (i := 10) (v := ?_) rfl (by kernel_rfl) (by kernel_rfl) (by kernel_rfl) (fun _ _ _ h => h) (Or.inl ⟨by rfl, ?_⟩) hHeld ?_
              rotate_left
              · intro u hSu
                (go_simp) <;> (with_reducible rfl)
              change wpAnyH _ _ _ _ _ _ _ (Act.put _ (some 80) _) _
              simp only [Act.put, List.setIfInBounds_toArray, List.set_cons_zero, List.set_cons_succ]
              refine wpAnyH_take (i := 11) (v := ?_) rfl (by kernel_rfl) (by kernel_rfl) (by kernel_rfl) (fun _ _ _ h => h) (Or.inl ⟨by rfl, ?_⟩) hHeld ?_
              rotate_left
              · intro u hSu
                (go_simp) <;> (with_reducible rfl)
              change wpAnyH _ _ _ _ _ _ _ (Act.put _ (some 6) _) _
              simp only [Act.put, List.setIfInBounds_toArray, List.set_cons_zero, List.set_cons_succ]
              refine wpAnyH_done (by kernel_rfl) ?_ _
              refine NoPanic.normal ?_
              have HVX : Hid (Below x2.heap.size x2 x5) := FV.out _ B5.out
              have HOX : Hid (OwnB 38 16 w2 x5 (.slice ka m kp) m ((keysV S ++ (l.take i).map (fun W => W.k)).flatMap kc)) := HO.out.past (HX2.out.trans (HVX.out.mono HX2.out.size))
              have FKX : Hid (KeyAt x5 wr.heap.size 0 K1) := FK2.out _ HVX.out
              go_wp2_with (first | ((with_reducible show wpList _ _ _ (Oper.mk (some 82) _ _ _ _ _ :: _) _ _); refine wpList_load_keyD 82 (by rfl) (by rfl) _ (by rfl) wr.heap.size 0 (by rfl) K1 KY1.out FKX.out ?_) | ((with_reducible show wpList _ _ _ (Oper.mk (some 83) _ _ _ _ _ :: _) _ _); refine wpList_build_key1 83 (by rfl) (by rfl) _ (by rfl) K1 KY1.out (by rfl) ?_) | (at_builtin; refine wpList_own keyEl (w0 := w2) rfl (.tmp 81) (.tmp 83) rfl _ m _ (kc K1) rfl (HOX.out.alloc _) _ _ _ rfl (by rw [kc_len KY1.out]) (lies_made _ _ _) (ints_oneCell _ _) (fun h => by cases h) (m + 1) rfl hm1 _ HFL.out ?_; intro a6 c6 w6 h1 h2; have O6 : Hid (OwnB 38 16 w2 w6 (.slice a6 (m + 1) c6) (m + 1) ((keysV S ++ (l.take (i + 1)).map (fun W => W.k)).flatMap kc)) := h1; clear h1 h2))
              go_roundw
              case rel => exact ⟨i + 1, m + 1, _, a6, c6, by omega, by go_num, rfl, rfl, (by have := HMN.out; show _ = _; omega), O6, HFN.out _ (by simp), HCFN.out HNC.out⟩
              case measure => simp [intOf]; omega
          | true =>
            obtain ⟨s0, s1, _⟩ := HVY.out.past B2.out
            obtain ⟨_, e1, e2, _, _, _⟩ := FE.out x2 W2.out
            by_cases hcn : 0 < cn
            · have HF : Hid (Z = (9, ⟨S, ents M, O⟩)) := HZ3W.out (HCW.out.trans (by simp [hcn]))
              go_wp2_with (first | (go_at_call 39; refine (CCN.out _).mono ?_; rintro e x3 ⟨rfl, hb3⟩; have B3 : Hid (Below x2.heap.size x2 x3) := hb3; clear hb3))
              go_ret
              exact ⟨by rw [HF.out]; rfl, by rw [HF.out]; exact HP.out.stay (HQ.out _ (FW2.out _ (B3.out))).1⟩
            · have HNC : Hid (cf W = false) := HCW.out.trans (by simp [hcn])
              go_wp2_with (first | (go_at_call 39; refine (CCN.out _).mono ?_; rintro e x3 ⟨rfl, hb3⟩; have B3 : Hid (Below x2.heap.size x2 x3) := hb3; clear hb3))
              clear s0 s1 e1 e2
              have FV : Hid (∀ u, Below x3.heap.size x3 u → Below x2.heap.size x2 u) := fun u hu => (B3.out).trans (hu.mono (B3.out).size)
              have FKV : Hid (∀ u, Below x3.heap.size x3 u → KeyAt u wr.heap.size 0 K1) := fun u hu => FK2.out u (FV.out u hu)
              cases fl with
              | true =>
                go_wp2
                refine wp_region_noPanic ?_
                refine wp_region_held_drew (S := fun u => Below x3.heap.size x3 u) (by kernel_rfl) ?_ (fun hHeld => ?_)
                · exact (Below.refl _ _).drew
                refine wpAnyH_take (i := 0) (v := ?_) rfl (by kernel_rfl) (by kernel_rfl) (by kernel_rfl) (fun _ _ _ h => h) (Or.inl ⟨by rfl, ?_⟩) hHeld ?_
                rotate_left
                · intro u hSu
                  (go_simp) <;> (with_reducible rfl)
                change wpAnyH _ _ _ _ _ _ _ (Act.put _ (some 70) _) _
                simp only [Act.put, List.setIfInBounds_toArray, List.set_cons_zero, List.set_cons_succ]
                refine wpAnyH_take (i := 1) (v := ?_) rfl (by kernel_rfl) (by kernel_rfl) (by kernel_rfl) (fun _ _ _ h => h) (Or.inl ⟨by rfl, ?_⟩) hHeld ?_
                rotate_left
                · intro u hSu
                  (go_simp) <;> (with_reducible rfl)
                change wpAnyH _ _ _ _ _ _ _ (Act.put _ (some 71) _) _
                simp only [Act.put, List.setIfInBounds_toArray, List.set_cons_zero, List.set_cons_succ]
                refine wpAnyH_take (i := 2) (v := undef) rfl (by kernel_rfl) (by kernel_rfl) (by kernel_rfl) (fun _ _ _ h => h) (Or.inr ⟨by rfl, rfl⟩) hHeld ?_
                change wpAnyH _ _ _ _ _ _ _ (Act.put _ (some 72) _) _
                simp only [Act.put, List.setIfInBounds_toArray, List.set_cons_zero, List.set_cons_succ]
                refine wpAnyH_take (i := 3) (v := undef) rfl (by kernel_rfl) (by kernel_rfl) (by kernel_rfl) (fun _ _ _ h => h) (Or.inr ⟨by rfl, rfl⟩) hHeld ?_
                change wpAnyH _ _ _ _ _ _ _ (Act.put _ (some 73) _) _
                simp only [Act.put, List.setIfInBounds_toArray, List.set_cons_zero, List.set_cons_succ]
                refine wpAnyH_take (i := 4) (v := undef) rfl (by kernel_rfl) (by kernel_rfl) (by kernel_rfl) (fun _ _ _ h => h) (Or.inr ⟨by rfl, rfl⟩) hHeld ?_
                change wpAnyH _ _ _ _ _ _ _ (Act.put _ (some 74) _) _
                simp only [Act.put, List.setIfInBounds_toArray, List.set_cons_zero, List.set_cons_succ]
                refine wpAnyH_take (i := 5) (v := undef) rfl (by kernel_rfl) (by kernel_rfl) (by kernel_rfl) (fun _ _ _ h => h) (Or.inr ⟨by rfl, rfl⟩) hHeld ?_
                change wpAnyH _ _ _ _ _ _ _ (Act.put _ (some 75) _) _
                simp only [Act.put, List.setIfInBounds_toArray, List.set_cons_zero, List.set_cons_succ]
                refine wpAnyH_take (i := 6) (v := undef) rfl (by kernel_rfl) (by kernel_rfl) (by kernel_rfl) (fun _ _ _ h => h) (Or.inr ⟨by rfl, rfl⟩) hHeld ?_
                change wpAnyH _ _ _ _ _ _ _ (Act.put _ (some 76) _) _
                simp only [Act.put, List.setIfInBounds_toArray, List.set_cons_zero, List.set_cons_succ]
                refine wpAnyH_take (i := 7) (v := undef) rfl (by kernel_rfl) (by kernel_rfl) (by kernel_rfl) (fun _ _ _ h => h) (Or.inr ⟨by rfl, rfl⟩) hHeld ?_
                change wpAnyH _ _ _ _ _ _ _ (Act.put _ (some 77) _) _
                simp only [Act.put, List.setIfInBounds_toArray, List.set_cons_zero, List.set_cons_succ]
                refine wpAnyH_take (i := 8) (v := undef) rfl (by kernel_rfl) (by kernel_rfl) (by kernel_rfl) (fun _ _ _ h => h) (Or.inr ⟨by rfl, rfl⟩) hHeld ?_
                change wpAnyH _ _ _ _ _ _ _ (Act.put _ (some 78) _) _
                simp only [Act.put, List.setIfInBounds_toArray, List.set_cons_zero, List.set_cons_succ]
                refine wpAnyH_take (i := 9) (v := undef) rfl (by kernel_rfl) (by kernel_rfl) (by kernel_rfl) (fun _ _ _ h => h) (Or.inr ⟨by rfl, rfl⟩) hHeld ?_
                change wpAnyH _ _ _ _ _ _ _ (Act.put _ (some 79) _) _
                simp only [Act.put, List.setIfInBounds_toArray, List.set_cons_zero, List.set_cons_succ]
                refine wpAnyH_take (i := 10) (v := ?_) rfl (by kernel_rfl) (by kernel_rfl) (by kernel_rfl) (fun _ _ _ h => h) (Or.inl ⟨by rfl, ?_⟩) hHeld ?_
                rotate_left
                · intro u hSu
                  (go_simp) <;> (with_reducible rfl)
                change wpAnyH _ _ _ _ _ _ _ (Act.put _ (some 80) _) _
                simp only [Act.put, List.setIfInBounds_toArray, List.set_cons_zero, List.set_cons_succ]
                refine wpAnyH_take (i := 11) (v := ?_) rfl (by kernel_rfl) (by kernel_rfl) (by kernel_rfl) (fun _ _ _ h => h) (Or.inl ⟨by rfl, ?_⟩) hHeld ?_
                rotate_left
                · intro u hSu
                  (go_simp) <;> (with_reducible rfl)
                change wpAnyH _ _ _ _ _ _ _ (Act.put _ (some 6) _) _
                simp only [Act.put, List.setIfInBounds_toArray, List.set_cons_zero, List.set_cons_succ]
                refine wpAnyH_done (by kernel_rfl) ?_ _
                refine NoPanic.normal ?_
                have HVX : Hid (Below x2.heap.size x2 x3.drew) := ((FV.out _ (Below.refl _ _)).drew)
                have HOX : Hid (OwnB 38 16 w2 x3.drew (.slice ka m kp) m ((keysV S ++ (l.take i).map (fun W => W.k)).flatMap kc)) := HO.out.past (HX2.out.trans (HVX.out.mono HX2.out.size))
                have FKX : Hid (KeyAt x3.drew wr.heap.size 0 K1) := FK2.out _ HVX.out
                go_wp2_with (first | ((with_reducible show wpList _ _ _ (Oper.mk (some 82) _ _ _ _ _ :: _) _ _); refine wpList_load_keyD 82 (by rfl) (by rfl) _ (by rfl) wr.heap.size 0 (by rfl) K1 KY1.out FKX.out ?_) | ((with_reducible show wpList _ _ _ (Oper.mk (some 83) _ _ _ _ _ :: _) _ _); refine wpList_build_key1 83 (by rfl) (by rfl) _ (by rfl) K1 KY1.out (by rfl) ?_) | (at_builtin; refine wpList_own keyEl (w0 := w2) rfl (.tmp 81) (.tmp 83) rfl _ m _ (kc K1) rfl (HOX.out.alloc _) _ _ _ rfl (by rw [kc_len KY1.out]) (lies_made _ _ _) (ints_oneCell _ _) (fun h => by cases h) (m + 1) rfl hm1 _ HFL.out ?_; intro a6 c6 w6 h1 h2; have O6 : Hid (OwnB 38 16 w2 w6 (.slice a6 (m + 1) c6) (m + 1) ((keysV S ++ (l.take (i + 1)).map (fun W => W.k)).flatMap kc)) := h1; clear h1 h2))
                go_roundw
                case rel => exact ⟨i + 1, m + 1, _, a6, c6, by omega, by go_num, rfl, rfl, (by have := HMN.out; show _ = _; omega), O6, HFN.out _ rfl, HCFN.out HNC.out⟩
                case measure => simp [intOf]; omega
              | false =>
                go_wp2
                refine wp_region_noPanic ?_
                refine wp_region_held_drew (S := fun u => Below x3.heap.size x3 u) (by kernel_rfl) ?_ (fun hHeld => ?_)
                · exact (Below.refl _ _).drew
                refine wpAnyH_take (i := 0) (v := ?_) rfl (by kernel_rfl) (by kernel_rfl) (by kernel_rfl) (fun _ _ _ h => h) (Or.inl ⟨by rfl, ?_⟩) hHeld ?_
                rotate_left
                · intro u hSu
                  (go_simp) <;> (with_reducible rfl)
                change wpAnyH _ _ _ _ _ _ _ (Act.put _ (some 70) _) _
                simp only [Act.put, List.setIfInBounds_toArray, List.set_cons_zero, List.set_cons_succ]
                refine wpAnyH_take (i := 1) (v := ?_) rfl (by kernel_rfl) (by kernel_rfl) (by kernel_rfl) (fun _ _ _ h => h) (Or.inl ⟨by rfl, ?_⟩) hHeld ?_
                rotate_left
                · intro u hSu
                  (go_simp) <;> (with_reducible rfl)
                change wpAnyH _ _ _ _ _ _ _ (Act.put _ (some 71) _) _
                simp only [Act.put, List.setIfInBounds_toArray, List.set_cons_zero, List.set_cons_succ]
                refine wpAnyH_take (i := 2) (v := ?_) rfl (by kernel_rfl) (by kernel_rfl) (by kernel_rfl) (fun _ _ _ h => h) (Or.inl ⟨by rfl, ?_⟩) hHeld ?_
                rotate_left
                · intro u hSu
                  (go_simp) <;> (with_reducible rfl)
                change wpAnyH _ _ _ _ _ _ _ (Act.put _ (some 72) _) _
                simp only [Act.put, List.setIfInBounds_toArray, List.set_cons_zero, List.set_cons_succ]
                refine wpAnyH_take (i := 3) (v := ?_) rfl (by kernel_rfl) (by kernel_rfl) (by kernel_rfl) (fun _ _ _ h => h) (Or.inl ⟨by rfl, ?_⟩) hHeld ?_
                rotate_left
                · intro u hSu
                  (go_simp) <;> (with_reducible rfl)
                change wpAnyH _ _ _ _ _ _ _ (Act.put _ (some 73) _) _
                simp only [Act.put, List.setIfInBounds_toArray, List.set_cons_zero, List.set_cons_succ]
                refine wpAnyH_take (i := 4) (v := ?_) rfl (by kernel_rfl) (by kernel_rfl) (by kernel_rfl) (fun _ _ _ h => h) (Or.inl ⟨by rfl, ?_⟩) hHeld ?_
                rotate_left
                · intro u hSu
                  (go_simp) <;> (with_reducible rfl)
                change wpAnyH _ _ _ _ _ _ _ (Act.put _ (some 74) _) _
                simp only [Act.put, List.setIfInBounds_toArray, List.set_cons_zero, List.set_cons_succ]
                refine wpAnyH_take (i := 5) (v := ?_) rfl (by kernel_rfl) (by kernel_rfl) (by kernel_rfl) (fun _ _ _ h => h) (Or.inl ⟨by rfl, ?_⟩) hHeld ?_
                rotate_left
                · intro u hSu
                  have r0 := (HQ.out u (FW2.out u (FV.out u hSu))).2.1
                  (go_simp) <;> (with_reducible rfl)
                change wpAnyH _ _ _ _ _ _ _ (Act.put _ (some 75) _) _
                simp only [Act.put, List.setIfInBounds_toArray, List.set_cons_zero, List.set_cons_succ]
                refine wpAnyH_take (i := 6) (v := kv K1) rfl (by kernel_rfl) (by kernel_rfl) (by kernel_rfl) (fun _ _ _ h => h) (yieldsIf_load_mid (by rfl) _ _ rfl _ _ rfl (K1.map (Value.int .u8)) _ (fun u hu => (FKV.out u hu).range KY1.out) Tryz.underlying38 rfl (info_keyl K1 KY1.out)) hHeld ?_
                change wpAnyH _ _ _ _ _ _ _ (Act.put _ (some 76) _) _
                simp only [Act.put, List.setIfInBounds_toArray, List.set_cons_zero, List.set_cons_succ]
                refine wpAnyH_ready (rs := [7]) (by kernel_rfl) (by simp) ?_
                refine AllReadyH.cons rfl (fun K hK => ?_) AllReadyH.nil
                go_simp
                go_at_call 64
                refine (CCH.out _ (HQ.out _ (FW2.out _ (FV.out _ hHeld))).1).mono ?_
                rintro e x5 ⟨⟨ca, cp, rfl⟩, hb5⟩
                have B5 : Hid (Below x3.heap.size x3 x5) := hHeld.trans (hb5.mono hHeld.size)
                clear hb5
                refine hK.out _ _ ?_ (fun hHeld2 => ?_)
                · exact B5.out
                clear hK K hHeld
                have hHeld := hHeld2
                clear hHeld2
                refine wpAnyH_take (i := 8) (v := ?_) rfl (by kernel_rfl) (by kernel_rfl) (by kernel_rfl) (fun _ _ _ h => h) (Or.inl ⟨by rfl, ?_⟩) hHeld ?_
                rotate_left
                · intro u hSu
                  (go_simp) <;> (with_reducible rfl)
                change wpAnyH _ _ _ _ _ _ _ (Act.put _ (some 78) _) _
                simp only [Act.put, List.setIfInBounds_toArray, List.set_cons_zero, List.set_cons_succ]
                refine wpAnyH_take (i := 9) (v := ?_) rfl (by kernel_rfl) (by kernel_rfl) (by kernel_rfl) (fun _ _ _ h => h) (Or.inl ⟨by rfl, ?_⟩) hHeld ?_
                rotate_left
                · intro u hSu
                  (go_simp) <;> (with_reducible rfl)
                change wpAnyH _ _ _ _ _ _ _ (Act.put _ (some 79) _) _
                simp only [Act.put, List.setIfInBounds_toArray, List.set_cons_zero, List.set_cons_succ]
                refine wpAnyH_take (i := 10) (v := ?_) rfl (by kernel_rfl) (by kernel_rfl) (by kernel_rfl) (fun _ _ _ h => h) (Or.inl ⟨by rfl, ?_⟩) hHeld ?_
                rotate_left
                · intro u hSu
                  (go_simp) <;> (with_reducible rfl)
                change wpAnyH _ _ _ _ _ _ _ (Act.put _ (some 80) _) _
                simp only [Act.put, List.setIfInBounds_toArray, List.set_cons_zero, List.set_cons_succ]
                refine wpAnyH_take (i := 11) (v := ?_) rfl (by kernel_rfl) (by kernel_rfl) (by kernel_rfl) (fun _ _ _ h => h) (Or.inl ⟨by rfl, ?_⟩) hHeld ?_
                rotate_left
                · intro u hSu
                  (go_simp) <;> (with_reducible rfl)
                change wpAnyH _ _ _ _ _ _ _ (Act.put _ (some 6) _) _
                simp only [Act.put, List.setIfInBounds_toArray, List.set_cons_zero, List.set_cons_succ]
                refine wpAnyH_done (by kernel_rfl) ?_ _
                refine NoPanic.normal ?_
                have HVX : Hid (Below x2.heap.size x2 x5) := FV.out _ B5.out
                have HOX : Hid (OwnB 38 16 w2 x5 (.slice ka m kp) m ((keysV S ++ (l.take i).map (fun W => W.k)).flatMap kc)) := HO.out.past (HX2.out.trans (HVX.out.mono HX2.out.size))
                have FKX : Hid (KeyAt x5 wr.heap.size 0 K1) := FK2.out _ HVX.out
                go_wp2_with (first | ((with_reducible show wpList _ _ _ (Oper.mk (some 82) _ _ _ _ _ :: _) _ _); refine wpList_load_keyD 82 (by rfl) (by rfl) _ (by rfl) wr.heap.size 0 (by rfl) K1 KY1.out FKX.out ?_) | ((with_reducible show wpList _ _ _ (Oper.mk (some 83) _ _ _ _ _ :: _) _ _); refine wpList_build_key1 83 (by rfl) (by rfl) _ (by rfl) K1 KY1.out (by rfl) ?_) | (at_builtin; refine wpList_own keyEl (w0 := w2) rfl (.tmp 81) (.tmp 83) rfl _ m _ (kc K1) rfl (HOX.out.alloc _) _ _ _ rfl (by rw [kc_len KY1.out]) (lies_made _ _ _) (ints_oneCell _ _) (fun h => by cases h) (m + 1) rfl hm1 _ HFL.out ?_; intro a6 c6 w6 h1 h2; have O6 : Hid (OwnB 38 16 w2 w6 (.slice a6 (m + 1) c6) (m + 1) ((keysV S ++ (l.take (i + 1)).map (fun W => W.k)).flatMap kc)) := h1; clear h1 h2))
                go_roundw
                case rel => exact ⟨i + 1, m + 1, _, a6, c6, by omega, by go_num, rfl, rfl, (by have := HMN.out; show _ = _; omega), O6, HFN.out _ (by simp), HCFN.out HNC.out⟩
                case measure => simp [intOf]; omega
      refine AllReadyH.cons rfl (fun K hK => ?_) AllReadyH.nil
      go_simp
      refine hK.out _ _ ?_ (fun hHeld2 => ?_)
      · exact hHeld.alloc hHeld.size _
      clear hK K hHeld
      have hHeld := hHeld2
      clear hHeld2
      refine wpAnyH_ready (rs := [5]) (by kernel_rfl) (by simp) ?_
      refine AllReadyH.cons rfl (fun K hK => ?_) AllReadyH.nil
      go_simp
      go_at_call 62
      refine (CN.out _ (HQ.out _ (FW.out _ hHeld)).1).mono ?_
      rintro e x1 ⟨rfl, hb1⟩
      have B1 : Hid (Below Bx.heap.size Bx x1) := hHeld.trans (hb1.mono hHeld.size)
      have HZ1 : Hid (StMine x1 Bx.heap.size 0 0) := (StMine.made Bx.drew 28 0 0).past hb1
      clear hb1
      refine hK.out _ _ ?_ (fun hHeld2 => ?_)
      · exact B1.out
      clear hK K hHeld
      have hHeld := hHeld2
      clear hHeld2
      refine wpAnyH_take (i := 6) (v := ?_) rfl (by kernel_rfl) (by kernel_rfl) (by kernel_rfl) (fun _ _ _ h => h) (Or.inl ⟨by rfl, ?_⟩) hHeld ?_
      rotate_left
      · intro u hSu
        (go_simp) <;> (with_reducible rfl)
      change wpAnyH _ _ _ _ _ _ _ (Act.put _ (some 41) _) _
      simp only [Act.put, List.setIfInBounds_toArray, List.set_cons_zero, List.set_cons_succ]
      refine wpAnyH_take (i := 7) (v := ?_) rfl (by kernel_rfl) (by kernel_rfl) (by kernel_rfl) (fun _ _ _ h => h) (Or.inl ⟨by rfl, ?_⟩) hHeld ?_
      rotate_left
      · intro u hSu
        (go_simp) <;> (with_reducible rfl)
      change wpAnyH _ _ _ _ _ _ _ (Act.put _ (some 48) _) _
      simp only [Act.put, List.setIfInBounds_toArray, List.set_cons_zero, List.set_cons_succ]
      refine wpAnyH_take (i := 8) (v := ?_) rfl (by kernel_rfl) (by kernel_rfl) (by kernel_rfl) (fun _ _ _ h => h) (Or.inl ⟨by rfl, ?_⟩) hHeld ?_
      rotate_left
      · intro u hSu
        (go_simp) <;> (with_reducible rfl)
      change wpAnyH _ _ _ _ _ _ _ (Act.put _ (some 49) _) _
      simp only [Act.put, List.setIfInBounds_toArray, List.set_cons_zero, List.set_cons_succ]
      refine wpAnyH_ready (rs := [10]) (by kernel_rfl) (by simp) ?_
      refine AllReadyH.cons rfl (fun K hK => ?_) AllReadyH.nil
      rw [if_pos (by rfl)]
      refine wp_store_mid 28 _ _ rfl (Bx.heap.size) 0 #[.int .i64 nt, .int .u8 nn] rfl rfl (HZ1.out).there (by rw [info_st]; rfl) (all_oneCell_toArray (fun u hu => by simp at hu; rcases hu with rfl | rfl <;> rfl)) ?_
      generalize hY : World.setCells _ (Bx.heap.size) 0 (#[Value.int .i64 nt, Value.int .u8 nn] : Array Value).toList = Y
      have HVY : Hid (StMine Y (Bx.heap.size) nt nn) := (by rw [← hY]; exact (HZ1.out).store)
      have HBY : Hid (Below Bx.heap.size Bx Y) := (by rw [← hY]; exact below_cells (Nat.le_refl _) hHeld)
      clear hY
      refine hK.out _ _ ?_ (fun hHeld2 => ?_)
      · exact HBY.out
      clear hK K hHeld
      have hHeld := hHeld2
      clear hHeld2
      refine wpAnyH_take (i := 11) (v := ?_) rfl (by kernel_rfl) (by kernel_rfl) (by kernel_rfl) (fun _ _ _ h => h) (Or.inl ⟨by rfl, ?_⟩) hHeld ?_
      rotate_left
      · intro u hSu
        (go_simp) <;> (with_reducible rfl)
      change wpAnyH _ _ _ _ _ _ _ (Act.put _ (some 10) _) _
      simp only [Act.put, List.setIfInBounds_toArray]
      refine wpAnyH_done (by kernel_rfl) ?_ _
      refine NoPanic.normal ?_
      obtain ⟨b7, hb7⟩ : ∃ b7, b7 = Bx.heap.size := ⟨_, rfl⟩
      rw [← hb7] at HVY ⊢
      clear hb7
      have FWY : Hid (∀ u, Below Y.heap.size Y u → Below W0.heap.size W0 u) := fun u hu => FW.out u (HBY.out.trans (hu.mono HBY.out.size))
      have FKY : Hid (∀ u, Below Y.heap.size Y u → KeyAt u wr.heap.size 0 K1) := fun u hu => FK1.out u (HBY.out.trans (hu.mono HBY.out.size))
      go_wp2
      refine wp_region_noPanic ?_
      refine wp_region_held_drew (S := fun u => Below Y.heap.size Y u) (by kernel_rfl) ?_ (fun hHeld => ?_)
      · exact (Below.refl _ _).drew
      refine wpAnyH_take (i := 0) (v := ?_) rfl (by kernel_rfl) (by kernel_rfl) (by kernel_rfl) (fun _ _ _ h => h) (Or.inl ⟨by rfl, ?_⟩) hHeld ?_
      rotate_left
      · intro u hSu
        (go_simp) <;> (with_reducible rfl)
      change wpAnyH _ _ _ _ _ _ _ (Act.put _ (some 51) _) _
      simp only [Act.put, List.setIfInBounds_toArray, List.set_cons_zero, List.set_cons_succ]
      refine wpAnyH_take (i := 1) (v := ?_) rfl (by kernel_rfl) (by kernel_rfl) (by kernel_rfl) (fun _ _ _ h => h) (Or.inl ⟨by rfl, ?_⟩) hHeld ?_
      rotate_left
      · intro u hSu
        (go_simp) <;> (with_reducible rfl)
      change wpAnyH _ _ _ _ _ _ _ (Act.put _ (some 52) _) _
      simp only [Act.put, List.setIfInBounds_toArray, List.set_cons_zero, List.set_cons_succ]
      refine wpAnyH_take (i := 2) (v := ?_) rfl (by kernel_rfl) (by kernel_rfl) (by kernel_rfl) (fun _ _ _ h => h) (Or.inl ⟨by rfl, ?_⟩) hHeld ?_
      rotate_left
      · intro u hSu
        (go_simp) <;> (with_reducible rfl)
      change wpAnyH _ _ _ _ _ _ _ (Act.put _ (some 53) _) _
      simp only [Act.put, List.setIfInBounds_toArray, List.set_cons_zero, List.set_cons_succ]
      refine wpAnyH_take (i := 3) (v := ?_) rfl (by kernel_rfl) (by kernel_rfl) (by kernel_rfl) (fun _ _ _ h => h) (Or.inl ⟨by rfl, ?_⟩) hHeld ?_
      rotate_left
      · intro u hSu
        have r1 := (HQ.out u (FWY.out u hSu)).2.2.1
        (go_simp) <;> (with_reducible rfl)
      change wpAnyH _ _ _ _ _ _ _ (Act.put _ (some 54) _) _
      simp only [Act.put, List.setIfInBounds_toArray, List.set_cons_zero, List.set_cons_succ]
      refine wpAnyH_take (i := 4) (v := kv K1) rfl (by kernel_rfl) (by kernel_rfl) (by kernel_rfl) (fun _ _ _ h => h) (yieldsIf_load_mid (by rfl) _ _ rfl _ _ rfl (K1.map (Value.int .u8)) _ (fun u hu => (FKY.out u hu).range KY1.out) Tryz.underlying38 rfl (info_keyl K1 KY1.out)) hHeld ?_
      change wpAnyH _ _ _ _ _ _ _ (Act.put _ (some 55) _) _
      simp only [Act.put, List.setIfInBounds_toArray, List.set_cons_zero, List.set_cons_succ]
      refine wpAnyH_ready (rs := [5]) (by kernel_rfl) (by simp) ?_
      refine AllReadyH.cons rfl (fun K hK => ?_) AllReadyH.nil
      go_simp
      go_at_call 63
      refine (CHO.out _ (HQ.out _ (FWY.out _ hHeld)).1).mono ?_
      rintro e x2 ⟨rfl, hb2⟩
      have B2 : Hid (Below Y.heap.size Y x2) := hHeld.trans (hb2.mono hHeld.size)
      clear hb2
      refine hK.out _ _ ?_ (fun hHeld2 => ?_)
      · exact B2.out
      clear hK K hHeld
      have hHeld := hHeld2
      clear hHeld2
      refine wpAnyH_take (i := 6) (v := ?_) rfl (by kernel_rfl) (by kernel_rfl) (by kernel_rfl) (fun _ _ _ h => h) (Or.inl ⟨by rfl, ?_⟩) hHeld ?_
      rotate_left
      · intro u hSu
        (go_simp) <;> (with_reducible rfl)
      change wpAnyH _ _ _ _ _ _ _ (Act.put _ (some 50) _) _
      simp only [Act.put, List.setIfInBounds_toArray, List.set_cons_zero, List.set_cons_succ]
      refine wpAnyH_take (i := 7) (v := ?_) rfl (by kernel_rfl) (by kernel_rfl) (by kernel_rfl) (fun _ _ _ h => h) (Or.inl ⟨by rfl, ?_⟩) hHeld ?_
      rotate_left
      · intro u hSu
        (go_simp) <;> (with_reducible rfl)
      change wpAnyH _ _ _ _ _ _ _ (Act.put _ (some 57) _) _
      simp only [Act.put, List.setIfInBounds_toArray, List.set_cons_zero, List.set_cons_succ]
      refine wpAnyH_take (i := 8) (v := ?_) rfl (by kernel_rfl) (by kernel_rfl) (by kernel_rfl) (fun _ _ _ h => h) (Or.inl ⟨by rfl, ?_⟩) hHeld ?_
      rotate_left
      · intro u hSu
        (go_simp) <;> (with_reducible rfl)
      change wpAnyH _ _ _ _ _ _ _ (Act.put _ (some 58) _) _
      simp only [Act.put, List.setIfInBounds_toArray, List.set_cons_zero, List.set_cons_succ]
      refine wpAnyH_take (i := 9) (v := ?_) rfl (by kernel_rfl) (by kernel_rfl) (by kernel_rfl) (fun _ _ _ h => h) (Or.inl ⟨by rfl, ?_⟩) hHeld ?_
      rotate_left
      · intro u hSu
        (go_simp) <;> (with_reducible rfl)
      change wpAnyH _ _ _ _ _ _ _ (Act.put _ (some 11) _) _
      simp only [Act.put, List.setIfInBounds_toArray, List.set_cons_zero, List.set_cons_succ]
      refine wpAnyH_take (i := 10) (v := ?_) rfl (by kernel_rfl) (by kernel_rfl) (by kernel_rfl) (fun _ _ _ h => h) (Or.inl ⟨by rfl, ?_⟩) hHeld ?_
      rotate_left
      · intro u hSu
        (go_simp) <;> (with_reducible rfl)
      change wpAnyH _ _ _ _ _ _ _ (Act.put _ (some 12) _) _
      simp only [Act.put, List.setIfInBounds_toArray, List.set_cons_zero, List.set_cons_succ]
      refine wpAnyH_done (by kernel_rfl) ?_ _
      refine NoPanic.normal ?_
      have W2 : Hid (Below W0.heap.size W0 x2) := FWY.out _ B2.out
      have FK2 : Hid (∀ u, Below x2.heap.size x2 u → KeyAt u wr.heap.size 0 K1) := fun u hu => FKY.out u (B2.out.trans (hu.mono B2.out.size))
      have FW2 : Hid (∀ u, Below x2.heap.size x2 u → Below W0.heap.size W0 u) := fun u hu => W2.out.trans (hu.mono W2.out.size)
      have HX2 : Hid (Below wr.heap.size wr x2) := H4.out.1.trans ((HBY.out.trans (B2.out.mono HBY.out.size)).mono H4.out.1.size)
      cases hd with
      | true =>
        have HF : Hid (Z = (9, ⟨S, ents M, O⟩)) := HZ3W.out (HCW.out.trans (by simp))
        go_wp2
        go_ret
        exact ⟨by rw [HF.out]; rfl, by rw [HF.out]; exact HP.out.stay (HQ.out _ (FW2.out _ (Below.refl _ _))).1⟩
      | false =>
        cases ok with
        | false =>
          have HNC : Hid (cf W = false) := HCW.out.trans (by simp)
          go_wp2
          have FV : Hid (∀ u, Below x2.heap.size x2 u → Below x2.heap.size x2 u) := fun u hu => hu
          have FKV : Hid (∀ u, Below x2.heap.size x2 u → KeyAt u wr.heap.size 0 K1) := fun u hu => FK2.out u hu
          cases fl with
          | true =>
            go_wp2
            refine wp_region_noPanic ?_
            refine wp_region_held_drew (S := fun u => Below x2.heap.size x2 u) (by kernel_rfl) ?_ (fun hHeld => ?_)
            · exact (Below.refl _ _).drew
            refine wpAnyH_take (i := 0) (v := ?_) rfl (by kernel_rfl) (by kernel_rfl) (by kernel_rfl) (fun _ _ _ h => h) (Or.inl ⟨by rfl, ?_⟩) hHeld ?_
            rotate_left
            · intro u hSu
              (go_simp) <;> (with_reducible rfl)
            change wpAnyH _ _ _ _ _ _ _ (Act.put _ (some 70) _) _
            simp only [Act.put, List.setIfInBounds_toArray, List.set_cons_zero, List.set_cons_succ]
            refine wpAnyH_take (i := 1) (v := ?_) rfl (by kernel_rfl) (by kernel_rfl) (by kernel_rfl) (fun _ _ _ h => h) (Or.inl ⟨by rfl, ?_⟩) hHeld ?_
            rotate_left
            · intro u hSu
              (go_simp) <;> (with_reducible rfl)
            change wpAnyH _ _ _ _ _ _ _ (Act.put _ (some 71) _) _
            simp only [Act.put, List.setIfInBounds_toArray, List.set_cons_zero, List.set_cons_succ]
            refine wpAnyH_take (i := 2) (v := undef) rfl (by kernel_rfl) (by kernel_rfl) (by kernel_rfl) (fun _ _ _ h => h) (Or.inr ⟨by rfl, rfl⟩) hHeld ?_
            change wpAnyH _ _ _ _ _ _ _ (Act.put _ (some 72) _) _
            simp only [Act.put, List.setIfInBounds_toArray, List.set_cons_zero, List.set_cons_succ]
            refine wpAnyH_take (i := 3) (v := undef) rfl (by kernel_rfl) (by kernel_rfl) (by kernel_rfl) (fun _ _ _ h => h) (Or.inr ⟨by rfl, rfl⟩) hHeld ?_
            change wpAnyH _ _ _ _ _ _ _ (Act.put _ (some 73) _) _
            simp only [Act.put, List.setIfInBounds_toArray, List.set_cons_zero, List.set_cons_succ]
            refine wpAnyH_take (i := 4) (v := undef) rfl (by kernel_rfl) (by kernel_rfl) (by kernel_rfl) (fun _ _ _ h => h) (Or.inr ⟨by rfl, rfl⟩) hHeld ?_
            change wpAnyH _ _ _ _ _ _ _ (Act.put _ (some 74) _) _
            simp only [Act.put, List.setIfInBounds_toArray, List.set_cons_zero, List.set_cons_succ]
            refine wpAnyH_take (i := 5) (v := undef) rfl (by kernel_rfl) (by kernel_rfl) (by kernel_rfl) (fun _ _ _ h => h) (Or.inr ⟨by rfl, rfl⟩) hHeld ?_
            change wpAnyH _ _ _ _ _ _ _ (Act.put _ (some 75) _) _
            simp only [Act.put, List.setIfInBounds_toArray, List.set_cons_zero, List.set_cons_succ]
            refine wpAnyH_take (i := 6) (v := undef) rfl (by kernel_rfl) (by kernel_rfl) (by kernel_rfl) (fun _ _ _ h => h) (Or.inr ⟨by rfl, rfl⟩) hHeld ?_
            change wpAnyH _ _ _ _ _ _ _ (Act.put _ (some 76) _) _
            simp only [Act.put, List.setIfInBounds_toArray, List.set_cons_zero, List.set_cons_succ]
            refine wpAnyH_take (i := 7) (v := undef) rfl (by kernel_rfl) (by kernel_rfl) (by kernel_rfl) (fun _ _ _ h => h) (Or.inr ⟨by rfl, rfl⟩) hHeld ?_
            change wpAnyH _ _ _ _ _ _ _ (Act.put _ (some 77) _) _
            simp only [Act.put, List.setIfInBounds_toArray, List.set_cons_zero, List.set_cons_succ]
            refine wpAnyH_take (i := 8) (v := undef) rfl (by kernel_rfl) (by kernel_rfl) (by kernel_rfl) (fun _ _ _ h => h) (Or.inr ⟨by rfl, rfl⟩) hHeld ?_
            change wpAnyH _ _ _ _ _ _ _ (Act.put _ (some 78) _) _
            simp only [Act.put, List.setIfInBounds_toArray, List.set_cons_zero, List.set_cons_succ]
            refine wpAnyH_take (i := 9) (v := undef) rfl (by kernel_rfl) (by kernel_rfl) (by kernel_rfl) (fun _ _ _ h => h) (Or.inr ⟨by rfl, rfl⟩) hHeld ?_
            change wpAnyH _ _ _ _ _ _ _ (Act.put _ (some 79) _) _
            simp only [Act.put, List.setIfInBounds_toArray, List.set_cons_zero, List.set_cons_succ]
            refine wpAnyH_take (i := 10) (v := ?_) rfl (by kernel_rfl) (by kernel_rfl) (by kernel_rfl) (fun _ _ _ h => h) (Or.inl ⟨by rfl, ?_⟩) hHeld ?_
            rotate_left
            · intro u hSu
              (go_simp) <;> (with_reducible rfl)
            change wpAnyH _ _ _ _ _ _ _ (Act.put _ (some 80) _) _
            simp only [Act.put, List.setIfInBounds_toArray, List.set_cons_zero, List.set_cons_succ]
            refine wpAnyH_take (i := 11) (v := ?_) rfl (by kernel_rfl) (by kernel_rfl) (by kernel_rfl) (fun _ _ _ h => h) (Or.inl ⟨by rfl, ?_⟩) hHeld ?_
            rotate_left
            · intro u hSu
              (go_simp) <;> (with_reducible rfl)
            change wpAnyH _ _ _ _ _ _ _ (Act.put _ (some 6) _) _
            simp only [Act.put, List.setIfInBounds_toArray, List.set_cons_zero, List.set_cons_succ]
            refine wpAnyH_done (by kernel_rfl) ?_ _
            refine NoPanic.normal ?_
            have HVX : Hid (Below x2.heap.size x2 x2.drew) := ((FV.out _ (Below.refl _ _)).drew)
            have HOX : Hid (OwnB 38 16 w2 x2.drew (.slice ka m kp) m ((keysV S ++ (l.take i).map (fun W => W.k)).flatMap kc)) := HO.out.past (HX2.out.trans (HVX.out.mono HX2.out.size))
            have FKX : Hid (KeyAt x2.drew wr.heap.size 0 K1) := FK2.out _ HVX.out
            go_wp2_with (first | ((with_reducible show wpList _ _ _ (Oper.mk (some 82) _ _ _ _ _ :: _) _ _); refine wpList_load_keyD 82 (by rfl) (by rfl) _ (by rfl) wr.heap.size 0 (by rfl) K1 KY1.out FKX.out ?_) | ((with_reducible show wpList _ _ _ (Oper.mk (some 83) _ _ _ _ _ :: _) _ _); refine wpList_build_key1 83 (by rfl) (by rfl) _ (by rfl) K1 KY1.out (by rfl) ?_) | (at_builtin; refine wpList_own keyEl (w0 := w2) rfl (.tmp 81) (.tmp 83) rfl _ m _ (kc K1) rfl (HOX.out.alloc _) _ _ _ rfl (by rw [kc_len KY1.out]) (lies_made _ _ _) (ints_oneCell _ _) (fun h => by cases h) (m + 1) rfl hm1 _ HFL.out ?_; intro a6 c6 w6 h1 h2; have O6 : Hid (OwnB 38 16 w2 w6 (.slice a6 (m + 1) c6) (m + 1) ((keysV S ++ (l.take (i + 1)).map (fun W => W.k)).flatMap kc)) := h1; clear h1 h2))
            go_roundw
            case rel => exact ⟨i + 1, m + 1, _, a6, c6, by omega, by go_num, rfl, rfl, (by have := HMN.out; show _ = _; omega), O6, HFN.out _ rfl, HCFN.out HNC.out⟩
            case measure => simp [intOf]; omega
          | false =>
            go_wp2
            refine wp_region_noPanic ?_
            refine wp_region_held_drew (S := fun u => Below x2.heap.size x2 u) (by kernel_rfl) ?_ (fun hHeld => ?_)
            · exact (Below.refl _ _).drew
            refine wpAnyH_take (i := 0) (v := ?_) rfl (by kernel_rfl) (by kernel_rfl) (by kernel_rfl) (fun _ _ _ h => h) (Or.inl ⟨by rfl, ?_⟩) hHeld ?_
            rotate_left
            · intro u hSu
              (go_simp) <;> (with_reducible rfl)
            change wpAnyH _ _ _ _ _ _ _ (Act.put _ (some 70) _) _
            simp only [Act.put, List.setIfInBounds_toArray, List.set_cons_zero, List.set_cons_succ]
            refine wpAnyH_take (i := 1) (v := ?_) rfl (by kernel_rfl) (by kernel_rfl) (by kernel_rfl) (fun _ _ _ h => h) (Or.inl ⟨by rfl, ?_⟩) hHeld ?_
            rotate_left
            · intro u hSu
              (go_simp) <;> (with_reducible rfl)
            change wpAnyH _ _ _ _ _ _ _ (Act.put _ (some 71) _) _
            simp only [Act.put, List.setIfInBounds_toArray, List.set_cons_zero, List.set_cons_succ]
            refine wpAnyH_take (i := 2) (v := ?_) rfl (by kernel_rfl) (by kernel_rfl) (by kernel_rfl) (fun _ _ _ h => h) (Or.inl ⟨by rfl, ?_⟩) hHeld ?_
            rotate_left
            · intro u hSu
              (go_simp) <;> (with_reducible rfl)
            change wpAnyH _ _ _ _ _ _ _ (Act.put _ (some 72) _) _
            simp only [Act.put, List.setIfInBounds_toArray, List.set_cons_zero, List.set_cons_succ]
            refine wpAnyH_take (i := 3) (v := ?_) rfl (by kernel_rfl) (by kernel_rfl) (by kernel_rfl) (fun _ _ _ h => h) (Or.inl ⟨by rfl, ?_⟩) hHeld ?_
            rotate_left
            · intro u hSu
              (go_simp) <;> (with_reducible rfl)
            change wpAnyH _ _ _ _ _ _ _ (Act.put _ (some 73) _) _
            simp only [Act.put, List.setIfInBounds_toArray, List.set_cons_zero, List.set_cons_succ]
            refine wpAnyH_take (i := 4) (v := ?_) rfl (by kernel_rfl) (by kernel_rfl) (by kernel_rfl) (fun _ _ _ h => h) (Or.inl ⟨by rfl, ?_⟩) hHeld ?_
            rotate_left
            · intro u hSu
              (go_simp) <;> (with_reducible rfl)
            change wpAnyH _ _ _ _ _ _ _ (Act.put _ (some 74) _) _
            simp only [Act.put, List.setIfInBounds_toArray, List.set_cons_zero, List.set_cons_succ]
            refine wpAnyH_take (i := 5) (v := ?_) rfl (by kernel_rfl) (by kernel_rfl) (by kernel_rfl) (fun _ _ _ h => h) (Or.inl ⟨by rfl, ?_⟩) hHeld ?_
            rotate_left
            · intro u hSu
              have r0 := (HQ.out u (FW2.out u (FV.out u hSu))).2.1
              (go_simp) <;> (with_reducible rfl)
            change wpAnyH _ _ _ _ _ _ _ (Act.put _ (some 75) _) _
            simp only [Act.put, List.setIfInBounds_toArray, List.set_cons_zero, List.set_cons_succ]
            refine wpAnyH_take (i := 6) (v := kv K1) rfl (by kernel_rfl) (by kernel_rfl) (by kernel_rfl) (fun _ _ _ h => h) (yieldsIf_load_mid (by rfl) _ _ rfl _ _ rfl (K1.map (Value.int .u8)) _ (fun u hu => (FKV.out u hu).range KY1.out) Tryz.underlying38 rfl (info_keyl K1 KY1.out)) hHeld ?_
            change wpAnyH _ _ _ _ _ _ _ (Act.put _ (some 76) _) _
            simp only [Act.put, List.setIfInBounds_toArray, List.set_cons_zero, List.set_cons_succ]
            refine wpAnyH_ready (rs := [7]) (by kernel_rfl) (by simp) ?_
            refine AllReadyH.cons rfl (fun K hK => ?_) AllReadyH.nil
            go_simp
            go_at_call 64
            refine (CCH.out _ (HQ.out _ (FW2.out _ (FV.out _ hHeld))).1).mono ?_
            rintro e x5 ⟨⟨ca, cp, rfl⟩, hb5⟩
            have B5 : Hid (Below x2.heap.size x2 x5) := hHeld.trans (hb5.mono hHeld.size)
            clear hb5
            refine hK.out _ _ ?_ (fun hHeld2 => ?_)
            · exact B5.out
            clear hK K hHeld
            have hHeld := hHeld2
            clear hHeld2
            refine wpAnyH_take (i := 8) (v := ?_) rfl (by kernel_rfl) (by kernel_rfl) (by kernel_rfl) (fun _ _ _ h => h) (Or.inl ⟨by rfl, ?_⟩) hHeld ?_
            rotate_left
            · intro u hSu
              (go_simp) <;> (with_reducible rfl)
            change wpAnyH _ _ _ _ _ _ _ (Act.put _ (some 78) _) _
            simp only [Act.put, List.setIfInBounds_toArray, List.set_cons_zero, List.set_cons_succ]
            refine wpAnyH_take (i := 9) (v := ?_) rfl (by kernel_rfl) (by kernel_rfl) (by kernel_rfl) (fun _ _ _ h => h) (Or.inl ⟨by rfl, ?_⟩) hHeld ?_
            rotate_left
            · intro u hSu
              (go_simp) <;> (with_reducible rfl)
            change wpAnyH _ _ _ _ _ _ _ (Act.put _ (some 79) _) _
            simp only [Act.put, List.setIfInBounds_toArray, List.set_cons_zero, List.set_cons_succ]
            refine wpAnyH_take (i := 10) (v := ?_) rfl (by kernel_rfl) (by kernel_rfl) (by kernel_rfl) (fun _ _ _ h => h) (Or.inl ⟨by rfl, ?_⟩) hHeld ?_
            rotate_left
            · intro u hSu
              (go_simp) <;> (with_reducible rfl)
            change wpAnyH _ _ _ _ _ _ _ (Act.put _ (some 80) _) _
            simp only [Act.put, List.setIfInBounds_toArray, List.set_cons_zero, List.set_cons_succ]
            refine wpAnyH_take (i := 11) (v := ?_) rfl (by kernel_rfl) (by kernel_rfl) (by kernel_rfl) (fun _ _ _ h => h) (Or.inl ⟨by rfl, ?_⟩) hHeld ?_
            rotate_left
            · intro u hSu
              (go_simp) <;> (with_reducible rfl)
            change wpAnyH _ _ _ _ _ _ _ (Act.put _ (some 6) _) _
            simp only [Act.put, List.setIfInBounds_toArray, List.set_cons_zero, List.set_cons_succ]
            refine wpAnyH_done (by kernel_rfl) ?_ _
            refine NoPanic.normal ?_
            have HVX : Hid (Below x2.heap.size x2 x5) := FV.out _ B5.out
            have HOX : Hid (OwnB 38 16 w2 x5 (.slice ka m kp) m ((keysV S ++ (l.take i).map (fun W => W.k)).flatMap kc)) := HO.out.past (HX2.out.trans (HVX.out.mono HX2.out.size))
            have FKX : Hid (KeyAt x5 wr.heap.size 0 K1) := FK2.out _ HVX.out
            go_wp2_with (first | ((with_reducible show wpList _ _ _ (Oper.mk (some 82) _ _ _ _ _ :: _) _ _); refine wpList_load_keyD 82 (by rfl) (by rfl) _ (by rfl) wr.heap.size 0 (by rfl) K1 KY1.out FKX.out ?_) | ((with_reducible show wpList _ _ _ (Oper.mk (some 83) _ _ _ _ _ :: _) _ _); refine wpList_build_key1 83 (by rfl) (by rfl) _ (by rfl) K1 KY1.out (by rfl) ?_) | (at_builtin; refine wpList_own keyEl (w0 := w2) rfl (.tmp 81) (.tmp 83) rfl _ m _ (kc K1) rfl (HOX.out.alloc _) _ _ _ rfl (by rw [kc_len KY1.out]) (lies_made _ _ _) (ints_oneCell _ _) (fun h => by cases h) (m + 1) rfl hm1 _ HFL.out ?_; intro a6 c6 w6 h1 h2; have O6 : Hid (OwnB 38 16 w2 w6 (.slice a6 (m + 1) c6) (m + 1) ((keysV S ++ (l.take (i + 1)).map (fun W => W.k)).flatMap kc)) := h1; clear h1 h2))
            go_roundw
            case rel => exact ⟨i + 1, m + 1, _, a6, c6, by omega, by go_num, rfl, rfl, (by have := HMN.out; show _ = _; omega), O6, HFN.out _ (by simp), HCFN.out HNC.out⟩
            case measure => simp [intOf]; omega
        | true =>
          obtain ⟨s0, s1, _⟩ := HVY.out.past B2.out
          obtain ⟨_, e1, e2, _, _, _⟩ := FE.out x2 W2.out
          by_cases hcn : 0 < cn
          · have HF : Hid (Z = (9, ⟨S, ents M, O⟩)) := HZ3W.out (HCW.out.trans (by simp [hcn]))
            go_wp2_with (first | (go_at_call 39; refine (CCN.out _).mono ?_; rintro e x3 ⟨rfl, hb3⟩; have B3 : Hid (Below x2.heap.size x2 x3) := hb3; clear hb3))
            go_ret
            exact ⟨by rw [HF.out]; rfl, by rw [HF.out]; exact HP.out.stay (HQ.out _ (FW2.out _ (B3.out))).1⟩
          · have HNC : Hid (cf W = false) := HCW.out.trans (by simp [hcn])
            go_wp2_with (first | (go_at_call 39; refine (CCN.out _).mono ?_; rintro e x3 ⟨rfl, hb3⟩; have B3 : Hid (Below x2.heap.size x2 x3) := hb3; clear hb3))
            clear s0 s1 e1 e2
            have FV : Hid (∀ u, Below x3.heap.size x3 u → Below x2.heap.size x2 u) := fun u hu => (B3.out).trans (hu.mono (B3.out).size)
            have FKV : Hid (∀ u, Below x3.heap.size x3 u → KeyAt u wr.heap.size 0 K1) := fun u hu => FK2.out u (FV.out u hu)
            cases fl with
            | true =>
              go_wp2
              refine wp_region_noPanic ?_
              refine wp_region_held_drew (S := fun u => Below x3.heap.size x3 u) (by kernel_rfl) ?_ (fun hHeld => ?_)
              · exact (Below.refl _ _).drew
              refine wpAnyH_take (i := 0) (v := ?_) rfl (by kernel_rfl) (by kernel_rfl) (by kernel_rfl) (fun _ _ _ h => h) (Or.inl ⟨by rfl, ?_⟩) hHeld ?_
              rotate_left
              · intro u hSu
                (go_simp) <;> (with_reducible rfl)
              change wpAnyH _ _ _ _ _ _ _ (Act.put _ (some 70) _) _
              simp only [Act.put, List.setIfInBounds_toArray, List.set_cons_zero, List.set_cons_succ]
              refine wpAnyH_take (i := 1) (v := ?_) rfl (by kernel_rfl) (by kernel_rfl) (by kernel_rfl) (fun _ _ _ h => h) (Or.inl ⟨by rfl, ?_⟩) hHeld ?_
              rotate_left
              · intro u hSu
                (go_simp) <;> (with_reducible rfl)
              change wpAnyH _ _ _ _ _ _ _ (Act.put _ (some 71) _) _
              simp only [Act.put, List.setIfInBounds_toArray, List.set_cons_zero, List.set_cons_succ]
              refine wpAnyH_take (i := 2) (v := undef) rfl (by kernel_rfl) (by kernel_rfl) (by kernel_rfl) (fun _ _ _ h => h) (Or.inr ⟨by rfl, rfl⟩) hHeld ?_
              change wpAnyH _ _ _ _ _ _ _ (Act.put _ (some 72) _) _
              simp only [Act.put, List.setIfInBounds_toArray, List.set_cons_zero, List.set_cons_succ]
              refine wpAnyH_take (i := 3) (v := undef) rfl (by kernel_rfl) (by kernel_rfl) (by kernel_rfl) (fun _ _ _ h => h) (Or.inr ⟨by rfl, rfl⟩) hHeld ?_
              change wpAnyH _ _ _ _ _ _ _ (Act.put _ (some 73) _) _
              simp only [Act.put, List.setIfInBounds_toArray, List.set_cons_zero, List.set_cons_succ]
              refine wpAnyH_take (i := 4) (v := undef) rfl (by kernel_rfl) (by kernel_rfl) (by kernel_rfl) (fun _ _ _ h => h) (Or.inr ⟨by rfl, rfl⟩) hHeld ?_
              change wpAnyH _ _ _ _ _ _ _ (Act.put _ (some 74) _) _
              simp only [Act.put, List.setIfInBounds_toArray, List.set_cons_zero, List.set_cons_succ]
              refine wpAnyH_take (i := 5) (v := undef) rfl (by kernel_rfl) (by kernel_rfl) (by kernel_rfl) (fun _ _ _ h => h) (Or.inr ⟨by rfl, rfl⟩) hHeld ?_
              change wpAnyH _ _ _ _ _ _ _ (Act.put _ (some 75) _) _
              simp only [Act.put, List.setIfInBounds_toArray, List.set_cons_zero, List.set_cons_succ]
              refine wpAnyH_take (i := 6) (v := undef) rfl (by kernel_rfl) (by kernel_rfl) (by kernel_rfl) (fun _ _ _ h => h) (Or.inr ⟨by rfl, rfl⟩) hHeld ?_
              change wpAnyH _ _ _ _ _ _ _ (Act.put _ (some 76) _) _
              simp only [Act.put, List.setIfInBounds_toArray, List.set_cons_zero, List.set_cons_succ]
              refine wpAnyH_take (i := 7) (v := undef) rfl (by kernel_rfl) (by kernel_rfl) (by kernel_rfl) (fun _ _ _ h => h) (Or.inr ⟨by rfl, rfl⟩) hHeld ?_
              change wpAnyH _ _ _ _ _ _ _ (Act.put _ (some 77) _) _
              simp only [Act.put, List.setIfInBounds_toArray, List.set_cons_zero, List.set_cons_succ]
              refine wpAnyH_take (i := 8) (v := undef) rfl (by kernel_rfl) (by kernel_rfl) (by kernel_rfl) (fun _ _ _ h => h) (Or.inr ⟨by rfl, rfl⟩) hHeld ?_
              change wpAnyH _ _ _ _ _ _ _ (Act.put _ (some 78) _) _
              simp only [Act.put, List.setIfInBounds_toArray, List.set_cons_zero, List.set_cons_succ]
              refine wpAnyH_take (i := 9) (v := undef) rfl (by kernel_rfl) (by kernel_rfl) (by kernel_rfl) (fun _ _ _ h => h) (Or.inr ⟨by rfl, rfl⟩) hHeld ?_
              change wpAnyH _ _ _ _ _ _ _ (Act.put _ (some 79) _) _
              simp only [Act.put, List.setIfInBounds_toArray, List.set_cons_zero, List.set_cons_succ]
              refine wpAnyH_take (i := 10) (v := ?_) rfl (by kernel_rfl) (by kernel_rfl) (by kernel_rfl) (fun _ _ _ h => h) (Or.inl ⟨by rfl, ?_⟩) hHeld ?_
              rotate_left
              · intro u hSu
                (go_simp) <;> (with_reducible rfl)
              change wpAnyH _ _ _ _ _ _ _ (Act.put _ (some 80) _) _
              simp only [Act.put, List.setIfInBounds_toArray, List.set_cons_zero, List.set_cons_succ]
              refine wpAnyH_take (i := 11) (v := ?_) rfl (by kernel_rfl) (by kernel_rfl) (by kernel_rfl) (fun _ _ _ h => h) (Or.inl ⟨by rfl, ?_⟩) hHeld ?_
              rotate_left
              · intro u hSu
                (go_simp) <;> (with_reducible rfl)
              change wpAnyH _ _ _ _ _ _ _ (Act.put _ (some 6) _) _
              simp only [Act.put, List.setIfInBounds_toArray, List.set_cons_zero, List.set_cons_succ]
              refine wpAnyH_done (by kernel_rfl) ?_ _
              refine NoPanic.normal ?_
              have HVX : Hid (Below x2.heap.size x2 x3.drew) := ((FV.out _ (Below.refl _ _)).drew)
              have HOX : Hid (OwnB 38 16 w2 x3.drew (.slice ka m kp) m ((keysV S ++ (l.take i).map (fun W => W.k)).flatMap kc)) := HO.out.past (HX2.out.trans (HVX.out.mono HX2.out.size))
              have FKX : Hid (KeyAt x3.drew wr.heap.size 0 K1) := FK2.out _ HVX.out
              go_wp2_with (first | ((with_reducible show wpList _ _ _ (Oper.mk (some 82) _ _ _ _ _ :: _) _ _); refine wpList_load_keyD 82 (by rfl) (by rfl) _ (by rfl) wr.heap.size 0 (by rfl) K1 KY1.out FKX.out ?_) | ((with_reducible show wpList _ _ _ (Oper.mk (some 83) _ _ _ _ _ :: _) _ _); refine wpList_build_key1 83 (by rfl) (by rfl) _ (by rfl) K1 KY1.out (by rfl) ?_) | (at_builtin; refine wpList_own keyEl (w0 := w2) rfl (.tmp 81) (.tmp 83) rfl _ m _ (kc K1) rfl (HOX.out.alloc _) _ _ _ rfl (by rw [kc_len KY1.out]) (lies_made _ _ _) (ints_oneCell _ _) (fun h => by cases h) (m + 1) rfl hm1 _ HFL.out ?_; intro a6 c6 w6 h1 h2; have O6 : Hid (OwnB 38 16 w2 w6 (.slice a6 (m + 1) c6) (m + 1) ((keysV S ++ (l.take (i + 1)).map (fun W => W.k)).flatMap kc)) := h1; clear h1 h2))
              go_roundw
              case rel => exact ⟨i + 1, m + 1, _, a6, c6, by omega, by go_num, rfl, rfl, (by have := HMN.out; show _ = _; omega), O6, HFN.out _ rfl, HCFN.out HNC.out⟩
              case measure => simp [intOf]; omega
            | false =>
              go_wp2
              refine wp_region_noPanic ?_
              refine wp_region_held_drew (S := fun u => Below x3.heap.size x3 u) (by kernel_rfl) ?_ (fun hHeld => ?_)
              · exact (Below.refl _ _).drew
              refine wpAnyH_take (i := 0) (v := ?_) rfl (by kernel_rfl) (by kernel_rfl) (by kernel_rfl) (fun _ _ _ h => h) (Or.inl ⟨by rfl, ?_⟩) hHeld ?_
              rotate_left
              · intro u hSu
                (go_simp) <;> (with_reducible rfl)
              change wpAnyH _ _ _ _ _ _ _ (Act.put _ (some 70) _) _
              simp only [Act.put, List.setIfInBounds_toArray, List.set_cons_zero, List.set_cons_succ]
              refine wpAnyH_take (i := 1) (v := ?_) rfl (by kernel_rfl) (by kernel_rfl) (by kernel_rfl) (fun _ _ _ h => h) (Or.inl ⟨by rfl, ?_⟩) hHeld ?_
              rotate_left
              · intro u hSu
                (go_simp) <;> (with_reducible rfl)
              change wpAnyH _ _ _ _ _ _ _ (Act.put _ (some 71) _) _
              simp only [Act.put, List.setIfInBounds_toArray, List.set_cons_zero, List.set_cons_succ]
              refine wpAnyH_take (i := 2) (v := ?_) rfl (by kernel_rfl) (by kernel_rfl) (by kernel_rfl) (fun _ _ _ h => h) (Or.inl ⟨by rfl, ?_⟩) hHeld ?_
              rotate_left
              · intro u hSu
                (go_simp) <;> (with_reducible rfl)
              change wpAnyH _ _ _ _ _ _ _ (Act.put _ (some 72) _) _
              simp only [Act.put, List.setIfInBounds_toArray, List.set_cons_zero, List.set_cons_succ]
              refine wpAnyH_take (i := 3) (v := ?_) rfl (by kernel_rfl) (by kernel_rfl) (by kernel_rfl) (fun _ _ _ h => h) (Or.inl ⟨by rfl, ?_⟩) hHeld ?_
              rotate_left
              · intro u hSu
                (go_simp) <;> (with_reducible rfl)
              change wpAnyH _ _ _ _ _ _ _ (Act.put _ (some 73) _) _
              simp only [Act.put, List.setIfInBounds_toArray, List.set_cons_zero, List.set_cons_succ]
              refine wpAnyH_take (i := 4) (v := ?_) rfl (by kernel_rfl) (by kernel_rfl) (by kernel_rfl) (fun _ _ _ h => h) (Or.inl ⟨by rfl, ?_⟩) hHeld ?_
              rotate_left
              · intro u hSu
                (go_simp) <;> (with_reducible rfl)
              change wpAnyH _ _ _ _ _ _ _ (Act.put _ (some 74) _) _
              simp only [Act.put, List.setIfInBounds_toArray, List.set_cons_zero, List.set_cons_succ]
              refine wpAnyH_take (i := 5) (v := ?_) rfl (by kernel_rfl) (by kernel_rfl) (by kernel_rfl) (fun _ _ _ h => h) (Or.inl ⟨by rfl, ?_⟩) hHeld ?_
              rotate_left
              · intro u hSu
                have r0 := (HQ.out u (FW2.out u (FV.out u hSu))).2.1
                (go_simp) <;> (with_reducible rfl)
              change wpAnyH _ _ _ _ _ _ _ (Act.put _ (some 75) _) _
              simp only [Act.put, List.setIfInBounds_toArray, List.set_cons_zero, List.set_cons_succ]
              refine wpAnyH_take (i := 6) (v := kv K1) rfl (by kernel_rfl) (by kernel_rfl) (by kernel_rfl) (fun _ _ _ h => h) (yieldsIf_load_mid (by rfl) _ _ rfl _ _ rfl (K1.map (Value.int .u8)) _ (fun u hu => (FKV.out u hu).range KY1.out) Tryz.underlying38 rfl (info_keyl K1 KY1.out)) hHeld ?_
              change wpAnyH _ _ _ _ _ _ _ (Act.put _ (some 76) _) _
              simp only [Act.put, List.setIfInBounds_toArray, List.set_cons_zero, List.set_cons_succ]
              refine wpAnyH_ready (rs := [7]) (by kernel_rfl) (by simp) ?_
              refine AllReadyH.cons rfl (fun K hK => ?_) AllReadyH.nil
              go_simp
              go_at_call 64
              refine (CCH.out _ (HQ.out _ (FW2.out _ (FV.out _ hHeld))).1).mono ?_
              rintro e x5 ⟨⟨ca, cp, rfl⟩, hb5⟩
              have B5 : Hid (Below x3.heap.size x3 x5) := hHeld.trans (hb5.mono hHeld.size)
              clear hb5
              refine hK.out _ _ ?_ (fun hHeld2 => ?_)
              · exact B5.out
              clear hK K hHeld
              have hHeld := hHeld2
              clear hHeld2
              refine wpAnyH_take (i := 8) (v := ?_) rfl (by kernel_rfl) (by kernel_rfl) (by kernel_rfl) (fun _ _ _ h => h) (Or.inl ⟨by rfl, ?_⟩) hHeld ?_
              rotate_left
              · intro u hSu
                (go_simp) <;> (with_reducible rfl)
              change wpAnyH _ _ _ _ _ _ _ (Act.put _ (some 78) _) _
              simp only [Act.put, List.setIfInBounds_toArray, List.set_cons_zero, List.set_cons_succ]
              refine wpAnyH_take (i := 9) (v := ?_) rfl (by kernel_rfl) (by kernel_rfl) (by kernel_rfl) (fun _ _ _ h => h) (Or.inl ⟨by rfl, ?_⟩) hHeld ?_
              rotate_left
              · intro u hSu
                (go_simp) <;> (with_reducible rfl)
              change wpAnyH _ _ _ _ _ _ _ (Act.put _ (some 79) _) _
              simp only [Act.put, List.setIfInBounds_toArray, List.set_cons_zero, List.set_cons_succ]
              refine wpAnyH_take (i := 10) (v := ?_) rfl (by kernel_rfl) (by kernel_rfl) (by kernel_rfl) (fun _ _ _ h => h) (Or.inl ⟨by rfl, ?_⟩) hHeld ?_
              rotate_left
              · intro u hSu
                (go_simp) <;> (with_reducible rfl)
              change wpAnyH _ _ _ _ _ _ _ (Act.put _ (some 80) _) _
              simp only [Act.put, List.setIfInBounds_toArray, List.set_cons_zero, List.set_cons_succ]
              refine wpAnyH_take (i := 11) (v := ?_) rfl (by kernel_rfl) (by kernel_rfl) (by kernel_rfl) (fun _ _ _ h => h) (Or.inl ⟨by rfl, ?_⟩) hHeld ?_
              rotate_left
              · intro u hSu
                (go_simp) <;> (with_reducible rfl)
              change wpAnyH _ _ _ _ _ _ _ (Act.put _ (some 6) _) _
              simp only [Act.put, List.setIfInBounds_toArray, List.set_cons_zero, List.set_cons_succ]
              refine wpAnyH_done (by kernel_rfl) ?_ _
              refine NoPanic.normal ?_
              have HVX : Hid (Below x2.heap.size x2 x5) := FV.out _ B5.out
              have HOX : Hid (OwnB 38 16 w2 x5 (.slice ka m kp) m ((keysV S ++ (l.take i).map (fun W => W.k)).flatMap kc)) := HO.out.past (HX2.out.trans (HVX.out.mono HX2.out.size))
              have FKX : Hid (KeyAt x5 wr.heap.size 0 K1) := FK2.out _ HVX.out
              go_wp2_with (first | ((with_reducible show wpList _ _ _ (Oper.mk (some 82) _ _ _ _ _ :: _) _ _); refine wpList_load_keyD 82 (by rfl) (by rfl) _ (by rfl) wr.heap.size 0 (by rfl) K1 KY1.out FKX.out ?_) | ((with_reducible show wpList _ _ _ (Oper.mk (some 83) _ _ _ _ _ :: _) _ _); refine wpList_build_key1 83 (by rfl) (by rfl) _ (by rfl) K1 KY1.out (by rfl) ?_) | (at_builtin; refine wpList_own keyEl (w0 := w2) rfl (.tmp 81) (.tmp 83) rfl _ m _ (kc K1) rfl (HOX.out.alloc _) _ _ _ rfl (by rw [kc_len KY1.out]) (lies_made _ _ _) (ints_oneCell _ _) (fun h => by cases h) (m + 1) rfl hm1 _ HFL.out ?_; intro a6 c6 w6 h1 h2; have O6 : Hid (OwnB 38 16 w2 w6 (.slice a6 (m + 1) c6) (m + 1) ((keysV S ++ (l.take (i + 1)).map (fun W => W.k)).flatMap kc)) := h1; clear h1 h2))
              go_roundw
              case rel => exact ⟨i + 1, m + 1, _, a6, c6, by omega, by go_num, rfl, rfl, (by have := HMN.out; show _ = _; omega), O6, HFN.out _ (by simp), HCFN.out HNC.out⟩
              case measure => simp [intOf]; omega
    · obtain rfl : i = N := by omega
      have HT : Hid (l.take i = l) := List.take_of_length_le (by rw [HL.out]; exact Nat.le_refl _)
      have HFL1 : Hid (fl = l.any (fun W => decide (50 ≤ kMany S W.k))) := by have := HFL0.out; rw [HT.out] at this; exact this
      obtain ⟨K0, hK0⟩ : ∃ K0, K0 = keysV S ++ l.map (fun W => W.k) := ⟨_, rfl⟩
      have HZ5 : Hid (Z = if (fl || decide (200 < (sortK (K0 ++ keysT (ents M))).length)) = true then (6, ⟨S, ents M, O⟩) else (ad.1, ⟨S, ad.2, O⟩)) := by
        have h1 := HCF0.out
        rw [HT.out] at h1
        have h2 := HZ4.out h1
        rw [← HFL1.out, ← hK0] at h2
        exact h2
      have HOK : Hid (OwnB 38 16 w2 wr (.slice ka m kp) m (K0.flatMap kc)) := by have := HO.out; rw [HT.out, ← hK0] at this; exact this
      have HK0L : Hid (K0.length = m) := by show _ = _; rw [hK0, List.length_append, List.length_map, HNK.out, HL.out, HMN.out]
      have HKK : Hid (Kys (K0 ++ keysT (ents M))) := by
        intro k hk
        rcases List.mem_append.1 hk with e | e
        · rw [hK0] at e
          rcases List.mem_append.1 e with e | e
          · exact HKS.out k e
          · exact HKY.out.1 k e
        · exact HKY.out.2 k e
      have HLEN : Hid (∀ j, (K0 ++ keysT (ents (M.take j))).length ≤ 1000) := fun j => by
        rw [List.length_append, HK0L.out, HMN.out]
        have := keysT_pre M j
        rw [HNT.out] at this
        omega
      have CAD : Hid (∀ u, Below w.heap.size w u → Calls Tryz.prog 66 #[.pointer (some ⟨tb, 0, none⟩), .agg #[.int .i64 id, .int .i64 es, .int .u8 em, .int .i64 t, .int .u8 n, .slice a i c]] u fun e w' => e = .returned (.int .i64 ad.1) ∧ ∃ M', ents M' = ad.2 ∧ PrtR w' B q s tb S M' O ∧ Chg w w' (fun k => k = s ∨ k = tb) ∧ NewW w M M' ∧ RowsS w w' s tb) := fun u hu => by
        refine (radd_any B tb M id es em t n a i c l u (HP.out.past hu).tab (Nat.le_trans HB.out hu.size) (by rw [HNM.out]; exact hM) HL.out (HEW.out.past hu)).mono ?_
        rintro e w' ⟨rfl, M', d1, d2, d3, d4, d5⟩
        rw [HAD.out]
        exact ⟨rfl, M', d1, (HP.out.past hu).turnT d2 d3 d4 d5, (Chg.of_below hu _).trans (d3.mono (fun j _ e => .inr e)) (fun j _ e => e), d5.from_ hu.size, (RowsS.of_below hu HP.out.sto.lt HP.out.tab.lt).trans (RowsS.turnT d3 d4 (HP.out.past hu).sto.lt HP.out.st) hu.size⟩
      clear hK0 HO HT
      go_wp2
      clear z5
      go_loopw [5, 13] (fun lv iv wr => ∃ (i2 m2 : Nat) (ka : Option Addr) (kp : Nat), i2 ≤ NM ∧ iv = .int .i64 i2 ∧ lv = .slice ka m2 kp ∧ Hid (m2 = (K0 ++ keysT (ents (M.take i2))).length) ∧ Hid (OwnB 38 16 w2 wr (.slice ka m2 kp) m2 ((K0 ++ keysT (ents (M.take i2))).flatMap kc))) (fun _ iv _ => NM - (intOf iv).toNat)
      case atStart =>
        have e0 : keysT (ents (M.take 0)) = [] := by simp [keysT]
        exact ⟨0, m, ka, kp, Nat.zero_le _, rfl, rfl, by show _ = _; rw [e0, List.append_nil, HK0L.out], by show OwnB _ _ _ _ _ _ _; rw [e0, List.append_nil]; exact HOK.out⟩
      case round =>
        obtain ⟨i2, m2, ka2, kp2, hi2, rfl, rfl, HM2, HO2⟩ := hrel
        have hi20 : (0 : Int) ≤ (i2 : Int) := by omega
        have HB2 : Hid (Below W0.heap.size W0 wr) := H2.out.trans (HO2.out.below.mono H2.out.size)
        obtain ⟨_, q0, q1, q2⟩ := HQ.out wr HB2.out
        by_cases hlt2 : i2 < NM
        · have h12 : (i2 : Int) < (NM : Int) := by omega
          obtain ⟨x, hx⟩ : ∃ x, M[i2]? = some x := ⟨_, List.getElem?_eq_getElem (by rw [HNM.out]; exact hlt2)⟩
          obtain ⟨g, hag, HG⟩ := HS.out i2 x hx
          have HXI : Hid (M[i2]? = some x) := hx
          obtain ⟨hwr, hroomx, hfwx, _⟩ := HWR.out x (List.mem_of_getElem? hx)
          obtain ⟨xa, hxa⟩ : ∃ z, z = x.a := ⟨_, rfl⟩
          obtain ⟨xc, hxc⟩ : ∃ z, z = x.c := ⟨_, rfl⟩
          obtain ⟨NW, hNW⟩ : ∃ z, z = x.e.l.length := ⟨_, rfl⟩
          rw [← hNW] at hroomx hfwx
          rw [← hxc] at hroomx
          rw [← hxa] at hwr
          have HNW : Hid (x.e.l.length = NW) := hNW.symm
          have HWX : Hid (WrtsAt w xa x.e.l) := hwr
          have FX : Hid (∀ u, Below W0.heap.size W0 u → u.cell? ⟨g, i2 * 6 + 5, none⟩ = some (.slice xa NW xc)) := fun u hu => by
            have := (HG.out u (HQ.out u hu).1).cells
            rw [hxa, hxc, hNW]
            exact this.2.2.2.2.2
          have HBD : Hid (m2 + NW ≤ 1000) := by
            have := HLEN.out (i2 + 1)
            rw [keysT_next HXI.out, ← List.append_assoc, List.length_append, ← HM2.out, List.length_map, HNW.out] at this
            exact this
          subst hag
          have HQ2 : Hid (∀ u, Below W0.heap.size W0 u → u.cell? ⟨q, 1, none⟩ = some (.pointer (some ⟨tb, 0, none⟩)) ∧ u.cell? ⟨tb, 0, none⟩ = some (.slice (some ⟨g, 0, none⟩) NM c0)) := fun u hu => (HQ.out u hu).2.2
          obtain ⟨A2, hA2⟩ : ∃ A2, A2 = K0 ++ keysT (ents (M.take i2)) := ⟨_, rfl⟩
          have HA2 : Hid (A2 = K0 ++ keysT (ents (M.take i2))) := hA2
          have HO3 : Hid (OwnB 38 16 w2 wr (.slice ka2 m2 kp2) m2 (A2.flatMap kc)) := by show OwnB _ _ _ _ _ _ _; rw [hA2]; exact HO2.out
          clear hx hxa hxc hNW hwr HG q0 hA2 HO2
          go_wp2
          clear q1 q2
          go_loopw [5, 14] (fun lv jv wr => ∃ (z m3 : Nat) (ka : Option Addr) (kp : Nat), z ≤ NW ∧ jv = .int .i64 z ∧ lv = .slice ka m3 kp ∧ Hid (m3 = m2 + z) ∧ Hid (OwnB 38 16 w2 wr (.slice ka m3 kp) m3 ((A2 ++ (x.e.l.take z).map (fun W => W.k)).flatMap kc))) (fun _ jv _ => NW - (intOf jv).toNat)
          case atStart => exact ⟨0, m2, ka2, kp2, Nat.zero_le _, rfl, rfl, rfl, by show OwnB _ _ _ _ _ _ _; rw [List.take_zero, List.map_nil, List.append_nil]; exact HO3.out⟩
          case round =>
            obtain ⟨z, m3, ka5, kp5, hz, rfl, rfl, HM3, HO4⟩ := hrel
            have hz0 : (0 : Int) ≤ (z : Int) := by omega
            have HB3 : Hid (Below W0.heap.size W0 wr) := H2.out.trans (HO4.out.below.mono H2.out.size)
            obtain ⟨q1, q2⟩ := HQ2.out wr HB3.out
            have q5 := FX.out wr HB3.out
            by_cases hzl : z < NW
            · have h22 : (z : Int) < (NW : Int) := by omega
              obtain ⟨W, hW⟩ : ∃ W, x.e.l[z]? = some W := ⟨_, List.getElem?_eq_getElem (by rw [HNW.out]; exact hzl)⟩
              have HWZ : Hid (x.e.l[z]? = some W) := hW
              have hm1 : m3 + 1 ≤ 1000000 := by have := HM3.out; have := HBD.out; omega
              obtain ⟨bb, o, hxb, hwa, hwo⟩ := HWX.out.wrt hW
              obtain ⟨k2, hk2⟩ : ∃ k2, k2 = W.k := ⟨_, rfl⟩
              have KY2 : Hid (Ky k2) := by rw [hk2]; exact hwo.key
              have HAT : Hid (KeyAt wr bb (o + z * 18) k2) := by rw [hk2]; exact (hwa.past (HQ.out _ HB3.out).1).key hwo.key
              have HFL : Hid ((A2 ++ (x.e.l.take z).map (fun W => W.k)).flatMap kc ++ kc k2 = (A2 ++ (x.e.l.take (z + 1)).map (fun W => W.k)).flatMap kc) := by show _ = _; rw [take_map_next HWZ.out, ← hk2, ← List.append_assoc, List.flatMap_append, List.flatMap_append, List.flatMap_append]; simp
              subst hxb
              clear hW hwa hwo hk2
              go_wp2_with (first | ((with_reducible show wpList _ _ _ (Oper.mk (some 128) _ _ _ _ _ :: _) _ _); refine wpList_load_keyN 128 (by rfl) (by rfl) _ (by rfl) bb (o + z * 18) (by rfl) k2 KY2.out HAT.out ?_) | ((with_reducible show wpList _ _ _ (Oper.mk (some 129) _ _ _ _ _ :: _) _ _); refine wpList_build_key1 129 (by rfl) (by rfl) _ (by rfl) k2 KY2.out (by rfl) ?_) | (at_builtin; refine wpList_own keyEl (w0 := w2) rfl (.tmp 113) (.tmp 129) rfl _ m3 _ (kc k2) rfl (HO4.out.alloc _) _ _ _ rfl (by rw [kc_len KY2.out]) (lies_made _ _ _) (ints_oneCell _ _) (fun h => by cases h) (m3 + 1) rfl hm1 _ HFL.out ?_; intro a6 c6 w6 h1 h2; have O6 : Hid (OwnB 38 16 w2 w6 (.slice a6 (m3 + 1) c6) (m3 + 1) ((A2 ++ (x.e.l.take (z + 1)).map (fun W => W.k)).flatMap kc)) := h1; clear h1 h2))
              go_roundw
              case rel => exact ⟨z + 1, m3 + 1, a6, c6, by omega, by go_num, rfl, (by have := HM3.out; show _ = _; omega), O6⟩
              case measure => simp [intOf]; omega
            · obtain rfl : z = NW := by omega
              have HT2 : Hid (x.e.l.take z = x.e.l) := List.take_of_length_le (by rw [HNW.out]; exact Nat.le_refl _)
              have HO5 : Hid (OwnB 38 16 w2 wr (.slice ka5 m3 kp5) m3 ((K0 ++ keysT (ents (M.take (i2 + 1)))).flatMap kc)) := by
                show OwnB _ _ _ _ _ _ _
                rw [keysT_next HXI.out, ← List.append_assoc, ← HA2.out]
                have := HO4.out
                rw [HT2.out] at this
                exact this
              have HM5 : Hid (m3 = (K0 ++ keysT (ents (M.take (i2 + 1)))).length) := by
                show _ = _
                rw [keysT_next HXI.out, ← List.append_assoc, List.length_append, ← HM2.out, List.length_map, HNW.out]
                exact HM3.out
              go_wp2
              go_roundw
              case rel => exact ⟨i2 + 1, m3, ka5, kp5, by omega, by go_num, rfl, HM5, HO5⟩
              case measure => simp [intOf]; omega
        · obtain rfl : i2 = NM := by omega
          obtain ⟨KF, hKF⟩ : ∃ KF, KF = K0 ++ keysT (ents M) := ⟨_, rfl⟩
          have HT3 : M.take i2 = M := List.take_of_length_le (by rw [HNM.out]; exact Nat.le_refl _)
          have hlen : KF.length = m2 := by rw [hKF]; have := HM2.out; rw [HT3] at this; exact this.symm
          have hmm : m2 ≤ 1000 := by have := HLEN.out i2; rw [HT3, ← hKF, hlen] at this; exact this
          have hown := HO2.out
          rw [HT3, ← hKF] at hown
          obtain ⟨a7, c7, e7, h71, h72⟩ := own_keys hown.own hlen (by rw [hKF]; exact HKK.out)
          injection e7 with e71 e72 e73
          rw [← e71] at h72
          rw [← e73] at h71
          obtain ⟨NS, hNS⟩ : ∃ NS, NS = (sortK KF).length := ⟨_, rfl⟩
          have HZ6 : Hid (Z = if (fl || decide ((200 : Int) < (NS : Int))) = true then (6, ⟨S, ents M, O⟩) else (ad.1, ⟨S, ad.2, O⟩)) := by
            have h := HZ5.out
            rw [← hKF, ← hNS] at h
            have e : decide ((200 : Int) < (NS : Int)) = decide (200 < NS) := decide_eq_decide.2 (by omega)
            rw [e]
            exact h
          have CST : Hid (Calls Tryz.prog 65 #[.slice ka2 m2 kp2] wr fun e w' => (∃ sa sc, e = .returned (.slice sa NS sc)) ∧ Below wr.heap.size wr w') := by
            refine (rsort_any ka2 m2 kp2 KF wr hlen hmm h72).mono ?_
            rintro e w' ⟨v, rfl, hm, hb⟩
            obtain ⟨a8, c8, e8, _, _⟩ := own_keys hm.own rfl hm.kys
            rw [hNS]
            exact ⟨⟨a8, c8, by rw [e8]⟩, hb⟩
          clear hKF HT3 hlen hmm hown h72 e71 e72 e73 h71 hNS
          cases fl with
          | true =>
            have HF : Hid (Z = (6, ⟨S, ents M, O⟩)) := HZ6.out
            go_wp2
            go_ret
            exact ⟨by rw [HF.out]; rfl, by rw [HF.out]; exact HP.out.stay (HQ.out _ HB2.out).1⟩
          | false =>
            by_cases h200 : (200 : Int) < (NS : Int)
            · have HF : Hid (Z = (6, ⟨S, ents M, O⟩)) := by have := HZ6.out; rw [if_pos (by simp [h200])] at this; exact this
              go_wp2_with (first | (go_at_call 65; refine CST.out.mono ?_; rintro e w8 ⟨⟨sa, sc, rfl⟩, hb8⟩; have B8 : Hid (Below wr.heap.size wr w8) := hb8; clear hb8))
              go_ret
              exact ⟨by rw [HF.out]; rfl, by rw [HF.out]; exact HP.out.stay (HQ.out _ (HB2.out.trans (B8.out.mono HB2.out.size))).1⟩
            · have HF : Hid (Z = (ad.1, ⟨S, ad.2, O⟩)) := by have := HZ6.out; rw [if_neg (by simp; omega)] at this; exact this
              go_wp2_with (first | (go_at_call 65; refine CST.out.mono ?_; rintro e w8 ⟨⟨sa, sc, rfl⟩, hb8⟩; have B8 : Hid (Below wr.heap.size wr w8) := hb8; clear hb8))
              have F8 : Hid (∀ u, Below w8.heap.size w8 u → Below W0.heap.size W0 u) := fun u hu => HB2.out.trans ((B8.out.trans (hu.mono B8.out.size)).mono HB2.out.size)
              clear q0 q1 q2
              refine wp_region_noPanic ?_
              refine region_up 5 (fun u => Below w8.heap.size w8 u) (by kernel_rfl) ?_ (fun hHeld => ?_)
              · exact (Below.refl _ _).drew
              refine up_take (i := 0) (v := ?_) (by kernel_rfl) (by kernel_rfl) (by kernel_rfl) rfl (by kernel_rfl) (by kernel_rfl) (by kernel_rfl) (fun _ _ _ h => h) (Or.inl ⟨by rfl, ?_⟩) hHeld ?_
              rotate_left
              · intro u hSu
                (go_simp) <;> (with_reducible rfl)
              change wpUp _ _ _ _ _ _ _ _ (Act.put _ (some 138) _) _
              simp only [Act.put, List.setIfInBounds_toArray, List.set_cons_zero, List.set_cons_succ]
              refine up_take (i := 1) (v := ?_) (by kernel_rfl) (by kernel_rfl) (by kernel_rfl) rfl (by kernel_rfl) (by kernel_rfl) (by kernel_rfl) (fun _ _ _ h => h) (Or.inl ⟨by rfl, ?_⟩) hHeld ?_
              rotate_left
              · intro u hSu
                (go_simp) <;> (with_reducible rfl)
              change wpUp _ _ _ _ _ _ _ _ (Act.put _ (some 139) _) _
              simp only [Act.put, List.setIfInBounds_toArray, List.set_cons_zero, List.set_cons_succ]
              refine up_take (i := 2) (v := ?_) (by kernel_rfl) (by kernel_rfl) (by kernel_rfl) rfl (by kernel_rfl) (by kernel_rfl) (by kernel_rfl) (fun _ _ _ h => h) (Or.inl ⟨by rfl, ?_⟩) hHeld ?_
              rotate_left
              · intro u hSu
                (go_simp) <;> (with_reducible rfl)
              change wpUp _ _ _ _ _ _ _ _ (Act.put _ (some 140) _) _
              simp only [Act.put, List.setIfInBounds_toArray, List.set_cons_zero, List.set_cons_succ]
              refine up_take (i := 3) (v := ?_) (by kernel_rfl) (by kernel_rfl) (by kernel_rfl) rfl (by kernel_rfl) (by kernel_rfl) (by kernel_rfl) (fun _ _ _ h => h) (Or.inl ⟨by rfl, ?_⟩) hHeld ?_
              rotate_left
              · intro u hSu
                have r1 := (HQ.out u (F8.out u hSu)).2.2.1
                (go_simp) <;> (with_reducible rfl)
              change wpUp _ _ _ _ _ _ _ _ (Act.put _ (some 141) _) _
              simp only [Act.put, List.setIfInBounds_toArray, List.set_cons_zero, List.set_cons_succ]
              refine up_take (i := 4) (v := ?_) (by kernel_rfl) (by kernel_rfl) (by kernel_rfl) rfl (by kernel_rfl) (by kernel_rfl) (by kernel_rfl) (fun _ _ _ h => h) (Or.inl ⟨by rfl, ?_⟩) hHeld ?_
              rotate_left
              · intro u hSu
                obtain ⟨r0, r1, r2, r3, r4, r5⟩ := FE.out u (F8.out u hSu)
                (go_simp) <;> (with_reducible rfl)
              change wpUp _ _ _ _ _ _ _ _ (Act.put _ (some 142) _) _
              simp only [Act.put, List.setIfInBounds_toArray, List.set_cons_zero, List.set_cons_succ]
              refine up_ready (rs := [5]) (by kernel_rfl) (by simp) ?_
              refine AllUp.that rfl (fun K hK => ?_) AllUp.nil
              go_simp
              go_at_call 66
              refine (CAD.out _ (HQ.out _ (F8.out _ hHeld)).1).mono ?_
              rintro e w9 ⟨rfl, hd9⟩
              have G9 : Hid (∃ M', ents M' = ad.2 ∧ PrtR w9 B q s tb S M' O ∧ Chg w w9 (fun k => k = s ∨ k = tb) ∧ NewW w M M' ∧ RowsS w w9 s tb) := hd9; clear hd9
              refine hK.out _ _ ?_
              clear hK K hHeld
              refine up_after (i := 6) (v := ?_) (by kernel_rfl) (by kernel_rfl) rfl (Or.inl ⟨by rfl, ?_⟩) ?_
              rotate_left
              · intro u hSu
                (go_simp) <;> (with_reducible rfl)
              change wpUp _ _ _ _ _ _ _ _ (Act.put _ (some 4) _) _
              simp only [Act.put, List.setIfInBounds_toArray, List.set_cons_zero, List.set_cons_succ]
              refine up_done (by kernel_rfl) ?_
              refine NoPanic.normal ?_
              go_wp2
              go_ret
              obtain ⟨M', d1, d2, d3, d4, d5⟩ := G9.out
              exact ⟨by rw [HF.out]; rfl, by rw [HF.out, ← d1]; exact PrtD.turned HP.out d2 d3 d4 d5⟩
end Go.Proofs.YtileidbdmpeciaaGreat
