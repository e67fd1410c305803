/-
  The document's own stores in bytes: PutStore.
-/
import Derived.Test.YtpnjcflfnoamoaaGreatAu40
import Derived.Test.YtpnjcflfnoamoaaGreatAu34
import Derived.Test.YtpnjcflfnoamoaaGreatRefCk1
import Derived.Test.YtpnjcflfnoamoaaGreatRefSto1
namespace Go.Proofs.YtpnjcflfnoamoaaGreat
open Go.RowKit
set_option linter.unusedVariables false
set_option linter.unusedSimpArgs false

/-- Lists of two types lie in two blocks. -/
theorem rows_two {u : World} {B B' e e' s s' : Nat} {v v' : Value} {n n' : Nat} {xs xs' : List Value} (h : u.ownsRow B e s v n xs) (h' : u.ownsRow B' e' s' v' n' xs') (hne : e ≠ e') {k : Nat} (hk : v.ownBlock = some k) (hk' : v'.ownBlock = some k) : False := by
  rcases h.2 with ⟨e1, _⟩ | ⟨g, cap, cur, e1, hg, hh, r⟩
  · rw [e1] at hk; cases hk
  · rcases h'.2 with ⟨e2, _⟩ | ⟨g', cap', cur', e2, hg', hh', r'⟩
    · rw [e2] at hk'; cases hk'
    · rw [e1] at hk
      rw [e2] at hk'
      have a1 : g = k := Option.some.inj hk
      have a2 : g' = k := Option.some.inj hk'
      rw [a1] at hh
      rw [a2, hh] at hh'
      injection hh' with hh'
      injection hh' with _ h3
      exact hne h3
/-- A list of versions that was answered, later on. -/
structure ChnL (u : World) (a : Option Addr) (N c : Nat) (l : List Ver) : Prop where
  own : u.ownsRow 0 67 20 (.slice a N c) N (l.flatMap encV)
  len : l.length = N
  oks : OkL l
theorem ChnA.late {w u : World} {a : Option Addr} {N c : Nat} {l : List Ver} (h : ChnA w u a N c l) : ChnL u a N c l :=
  ⟨⟨h.own.own.1, h.own.own.2.imp (fun x => x) (fun ⟨g, cc, cur, x1, x2, x3⟩ => ⟨g, cc, cur, x1, Nat.zero_le _, x3⟩)⟩, h.len, h.oks⟩
theorem ChnL.past {u u' : World} {a : Option Addr} {N c : Nat} {l : List Ver} (h : ChnL u a N c l) (hb : Below u.heap.size u u') : ChnL u' a N c l :=
  ⟨own_below h.own hb (Nat.le_refl _), h.len, h.oks⟩
theorem ChnL.grown {u u' : World} {a : Option Addr} {N c : Nat} {l : List Ver} (h : ChnL u a N c l) {B n : Nat} {v : Value} {xs : List Value} (ho : u.ownsRow B 5 1 v n xs) (hg : u.grownBy u' v.ownBlock) : ChnL u' a N c l := by
  refine ⟨⟨h.own.1, ?_⟩, h.len, h.oks⟩
  rcases h.own.2 with h0 | ⟨g, cap, cur, e1, hg1, hh, r⟩
  · exact .inl h0
  · refine .inr ⟨g, cap, cur, e1, hg1, ?_, r⟩
    rw [← hh]
    exact hg.block g (Array.getElem?_eq_some_iff.1 hh).1 (fun e => rows_two h.own ho (by decide) (by rw [e1]; rfl) e.symm)
theorem ChnL.at_ {u : World} {a : Option Addr} {N c : Nat} {l : List Ver} (h : ChnL u a N c l) {i : Nat} {V : Ver} (hV : l[i]? = some V) : ∃ g, a = some ⟨g, 0, none⟩ ∧ ∀ v, Below u.heap.size u v → VerAt v g (i * 20) V := by
  rcases h.own.2 with ⟨e1, e2⟩ | ⟨g, cap, cur, e1, hg, hh, e5, _⟩
  · have e3 : l = [] := List.eq_nil_of_length_eq_zero (by have := h.len; omega)
    rw [e3] at hV; simp at hV
  · injection e1 with x1 x2 x3
    subst x1
    refine ⟨g, rfl, fun v hb => ⟨?_⟩⟩
    subst x3
    have hl := ((own_lies h.own).past hb).el h.oks.len hV
    rwa [Nat.zero_add] at hl
theorem take_nextC {α : Type} {l : List α} {i : Nat} {x : α} (h : l[i]? = some x) : l.take (i + 1) = l.take i ++ [x] := by rw [List.take_add_one, h]; rfl
theorem flat_next {α : Type} (f : α → List Int) {l : List α} {i : Nat} {x : α} (h : l[i]? = some x) : (l.take (i + 1)).flatMap f = (l.take i).flatMap f ++ f x := by rw [take_nextC h, List.flatMap_append]; simp
theorem flat_le {α : Type} (f : α → List Int) (l : List α) (i : Nat) : ((l.take i).flatMap f).length ≤ (l.flatMap f).length := by
  conv => rhs; rw [← List.take_append_drop i l, List.flatMap_append, List.length_append]
  omega
set_option maxHeartbeats 8000000 in
set_option maxRecDepth 8000 in
theorem rputstore_any (B p : Nat) (L : List Ver) (w : World) (h : StoreR w B p L) (hS : StoG L) (hm : (storeB L).length ≤ 900000) :
    Calls Tryz.prog 9 #[.pointer (some ⟨p, 0, none⟩)] w fun e w' => ∃ a m c, e = .returned (.slice a m c) ∧ Bt w w' (storeB L) a m c := by
  obtain ⟨ks, hks⟩ : ∃ K, K = keysV L := ⟨_, rfl⟩
  obtain ⟨N, hN⟩ : ∃ N, N = ks.length := ⟨_, rfl⟩
  have hkk : Kys ks := by rw [hks]; exact hS.keys
  have HKK : Hid (Kys ks) := hkk
  have hfew : N ≤ 200 := by rw [hN, hks]; exact hS.few
  have HNK : Hid (ks.length = N) := hN.symm
  have CK : Hid (Calls Tryz.prog 25 #[.pointer (some ⟨p, 0, none⟩)] w fun e w' => ∃ a' c', e = .returned (.slice a' N c') ∧ KeysAt w' a' ks ∧ Below w.heap.size w w') := by
    refine (rkeys10_any B p L w h).mono ?_
    rintro e w' ⟨⟨a', c', rfl, h1, h2⟩, h3⟩
    rw [← hks, ← hN]
    rw [← hks] at h1
    exact ⟨a', c', rfl, h1, h3⟩
  have HST : Hid (∀ u, Below w.heap.size w u → StoreR u B p L) := fun u hb => h.past hb
  have HSB : Hid (storeB L = Pl.putI (N : Int) ++ ks.flatMap (keyB L)) := by show _ = _; unfold storeB; rw [← hks, hN]
  have HLE : Hid (∀ i, (Pl.putI (N : Int) ++ (ks.take i).flatMap (keyB L)).length ≤ 900000) := fun i => by
    rw [HSB.out, List.length_append] at hm
    rw [List.length_append]
    have := flat_le (keyB L) ks i
    omega
  have HIN : Hid (∀ i k q V, ks[i]? = some k → (chainV L k)[q]? = some V → (Pl.putI (N : Int) ++ (ks.take i).flatMap (keyB L)).length + 16 + (Pl.putI ((chainV L k).length : Int)).length + (((chainV L k).take q).flatMap verB).length + (verB V).length ≤ 900000) := fun i k q V hk hq => by
    have h1 := HLE.out (i + 1)
    rw [flat_next (keyB L) hk, List.length_append, List.length_append] at h1
    have h2 := flat_le verB (chainV L k) (q + 1)
    rw [flat_next verB hq, List.length_append] at h2
    have h3 := (hkk k (List.mem_of_getElem? hk)).len
    rw [List.length_append]
    have h4 : (keyB L k).length = 16 + ((Pl.putI ((chainV L k).length : Int)).length + ((chainV L k).flatMap verB).length) := by unfold keyB chainB; rw [List.length_append, List.length_append, h3]
    omega
  have HIK : Hid (∀ i k, ks[i]? = some k → (Pl.putI (N : Int) ++ (ks.take i).flatMap (keyB L)).length + 16 ≤ 900000) := fun i k hk => by
    have h1 := HLE.out (i + 1)
    rw [flat_next (keyB L) hk, List.length_append, List.length_append] at h1
    have h3 := (hkk k (List.mem_of_getElem? hk)).len
    have h4 : (keyB L k).length = 16 + (chainB (chainV L k)).length := by unfold keyB; rw [List.length_append, h3]
    rw [List.length_append]
    omega
  have HML : Hid (∀ k, (chainV L k).length = kMany L k ∧ kMany L k ≤ 50) := fun k => ⟨chain_len L k, hS.sto.few k⟩
  clear h hS hm hks hN hkk
  go_enter Tryz.func9, Tryz.ntmps9
  go_wp2_with (first
    | (have hgo := K1.out; clear hgo; go_at_call 26; refine (num_nil w1 w1 (Below.refl _ _) (N : Int) (by omega) (by omega)).mono ?_; rintro e w2 ⟨a2, m2, c2, rfl, hbt, _⟩; have P2 : Hid (Bt w1 w2 (Pl.putI (N : Int) ++ (ks.take 0).flatMap (keyB L)) a2 m2 c2) := (by rw [List.take_zero, List.flatMap_nil, List.append_nil]; exact hbt); clear hbt)
    | (go_at_call 25; refine CK.out.mono ?_; rintro e w1 ⟨ka, kc1, rfl, hka, hb1⟩; have K1 : Hid (KeysAt w1 ka ks ∧ Below w.heap.size w w1) := ⟨hka, hb1⟩; clear hka hb1 CK))
  go_loopw [4, 5] (fun bv iv wr => ∃ (i m : Nat) (a : Option Addr) (c : Nat), i ≤ N ∧ iv = .int .i64 i ∧ bv = .slice a m c ∧ Hid (Bt w1 wr (Pl.putI (N : Int) ++ (ks.take i).flatMap (keyB L)) a m c)) (fun _ iv _ => N - (intOf iv).toNat)
  case atStart => exact ⟨0, m2, a2, c2, Nat.zero_le _, rfl, rfl, P2⟩
  case round =>
    obtain ⟨i, m, ax, cx, hi, rfl, rfl, HS⟩ := hrel
    have hi0 : (0 : Int) ≤ (i : Int) := by omega
    have HWB : Hid (∀ u, Below w1.heap.size w1 u → KeysAt u ka ks ∧ StoreR u B p L ∧ Below w.heap.size w u) := fun u hb => ⟨K1.out.1.past hb, HST.out u (K1.out.2.trans (hb.mono K1.out.2.size)), K1.out.2.trans (hb.mono K1.out.2.size)⟩
    by_cases hlt : i < N
    · have bl : (i : Int) < (N : Int) := by omega
      obtain ⟨k, hk⟩ : ∃ k, ks[i]? = some k := ⟨_, List.getElem?_eq_getElem (by rw [HNK.out]; exact hlt)⟩
      have HK : Hid (ks[i]? = some k) := hk
      have KK : Hid (Ky k) := HKK.out k (List.mem_of_getElem? hk)
      obtain ⟨kb, ko, rfl, _, _⟩ := K1.out.1.key (i := i) (by rw [HNK.out]; exact hlt)
      have HKA : Hid (∀ u, Below w1.heap.size w1 u → KeyAt u kb (ko + i * 16) k) := fun u hb => by
        obtain ⟨b', o', e, h1, _⟩ := (HWB.out u hb).1.key (i := i) (by rw [HNK.out]; exact hlt)
        cases e
        have e2 : ks.getD i [] = k := by simp [List.getD, hk]
        rw [e2] at h1
        exact h1
      have HKR : Hid (∀ u, Below w1.heap.size w1 u → Row u (some ⟨kb, ko + i * 16, none⟩) k) := fun u hb => ⟨KK.out.bytes, .inr ⟨kb, ko + i * 16, rfl, fun j hj => (HKA.out u hb).cell j (by rw [KK.out.len] at hj; exact hj)⟩⟩
      have HKL : Hid (k.length = 16) := KK.out.len
      obtain ⟨l, hl⟩ : ∃ l, l = chainV L k := ⟨_, rfl⟩
      obtain ⟨n3, hn3⟩ : ∃ n, n = kMany L k := ⟨_, rfl⟩
      have hn50 : n3 ≤ 50 := by rw [hn3]; exact (HML.out k).2
      have HL3 : Hid (l = chainV L k ∧ l.length = n3) := ⟨hl, by rw [hl, hn3]; exact (HML.out k).1⟩
      have CH : Hid (∀ u, Below w1.heap.size w1 u → Calls Tryz.prog 27 #[.pointer (some ⟨p, 0, none⟩), kv k] u fun e w' => ∃ a c, e = .returned (.slice a n3 c) ∧ ChnA u w' a n3 c l) := fun u hb => by
        rw [hl, hn3]; exact rChain_any B p L k KK.out u (HWB.out u hb).2.1
      obtain ⟨ZO, hZO⟩ : ∃ Z, Z = Pl.putI (N : Int) ++ (ks.take i).flatMap (keyB L) := ⟨_, rfl⟩
      rw [← hZO] at HS
      have HZO : Hid (ZO = Pl.putI (N : Int) ++ (ks.take i).flatMap (keyB L)) := hZO
      have hmo : m + 16 ≤ 900000 := by
        have h1 := HIK.out i k hk
        rw [← hZO, HS.out.len] at h1
        exact h1
      clear hk hl hn3 hZO
      go_wp2_with (first
        | (have hgo := C4.out; clear hgo; go_at_call 26; refine (C4.out.1.num (by omega) (n3 : Int) (by omega) (by omega)).mono ?_; rintro e w5 ⟨a5, m5, c5, rfl, hbt, hb⟩; have C5 : Hid (Bt w1 w5 (ZO ++ k ++ Pl.putI (n3 : Int)) a5 m5 c5 ∧ ChnL w5 a3 n3 c3 l) := ⟨hbt, C4.out.2.past hb⟩; clear hbt hb C4)
        | (have hgo := C3.out; clear hgo; at_builtin; refine wpList_append_row rfl (.tmp 26) (.tmp 30) rfl w1.heap.size _ m ZO k rfl C3.out.1.own _ 16 16 rfl (HKR.out _ C3.out.1.below) HKL.out (fun h => by cases h) C3.out.1.bytes (by omega) C3.out.1.below.size ?_; intro a4 c4 w4 o4 g4; have C4 : Hid (Bt w1 w4 (ZO ++ k) a4 (m + 16) c4 ∧ ChnL w4 a3 n3 c3 l) := ⟨⟨o4, (by rw [List.length_append, C3.out.1.len, HKL.out]), C3.out.1.bytes.app KK.out.bytes, C3.out.1.below.grown g4 C3.out.1.below.size (fun r hr => (C3.out.1.own.lt r hr).1)⟩, C3.out.2.grown C3.out.1.own g4⟩; clear o4 g4 C3)
        | (have hgo := CH.out; clear hgo; go_at_call 27; refine (CH.out _ HS.out.below).mono ?_; rintro e w3 ⟨a3, c3, rfl, hch⟩; have C3 : Hid (Bt w1 w3 ZO ax m cx ∧ ChnL w3 a3 n3 c3 l) := ⟨HS.out.past hch.own.below, hch.late⟩; clear hch CH)
        | (have hgo := CH.out; clear hgo; refine wpList_load_keyD 24 (by rfl) (by rfl) _ (by rfl) kb (ko + i * 16) (by rfl) k KK.out (HKA.out wr HS.out.below) ?_))
      obtain ⟨ZI, hZI⟩ : ∃ Z, Z = ZO ++ k ++ Pl.putI (n3 : Int) := ⟨_, rfl⟩
      rw [← hZI] at C5
      have HZI : Hid (ZI = ZO ++ k ++ Pl.putI (n3 : Int)) := hZI
      clear hZI HS
      go_loopw [4, 7] (fun bv qv wr2 => ∃ (q m : Nat) (a : Option Addr) (c : Nat), q ≤ n3 ∧ qv = .int .i64 q ∧ bv = .slice a m c ∧ Hid (Bt w1 wr2 (ZI ++ (l.take q).flatMap verB) a m c ∧ ChnL wr2 a3 n3 c3 l)) (fun _ qv _ => n3 - (intOf qv).toNat)
      case atStart => exact ⟨0, m5, a5, c5, Nat.zero_le _, rfl, rfl, by rw [List.take_zero, List.flatMap_nil, List.append_nil]; exact C5.out⟩
      case round =>
        obtain ⟨q, mq, aq, cq, hq, rfl, rfl, HI⟩ := hrel
        have hq0 : (0 : Int) ≤ (q : Int) := by omega
        by_cases hlt2 : q < n3
        · have h2 : (q : Int) < (n3 : Int) := by omega
          obtain ⟨V, hV⟩ : ∃ V, l[q]? = some V := ⟨_, List.getElem?_eq_getElem (by rw [HL3.out.2]; exact hlt2)⟩
          have HVO : Hid (VerOk V) := HI.out.2.oks V (List.mem_of_getElem? hV)
          obtain ⟨gv, rfl, hvat⟩ := HI.out.2.at_ hV
          have HVA : Hid (∀ u, Below wr.heap.size wr u → VerAt u gv (q * 20) V) := hvat
          have HVC : Hid (∀ u, Below wr.heap.size wr u → u.cell? ⟨gv, q * 20 + 16, none⟩ = some (.int .i64 V.t) ∧ u.cell? ⟨gv, q * 20 + 17, none⟩ = some (.int .u8 V.n) ∧ u.cell? ⟨gv, q * 20 + 18, none⟩ = some (.string (strOfNums V.v)) ∧ u.cell? ⟨gv, q * 20 + 19, none⟩ = some (.bool V.g)) := fun u hb => (hvat u hb).cells HVO.out.key
          have HNX : Hid ((l.take (q + 1)).flatMap verB = (l.take q).flatMap verB ++ verB V) := flat_next verB hV
          obtain ⟨ZQ, hZQ⟩ : ∃ Z, Z = ZI ++ (l.take q).flatMap verB := ⟨_, rfl⟩
          rw [← hZQ] at HI
          have HZQ : Hid (ZQ = ZI ++ (l.take q).flatMap verB) := hZQ
          have hmq : mq + (verB V).length ≤ 900000 := by
            have h1 := HIN.out i k q V HK.out (by rw [← HL3.out.1]; exact hV)
            rw [← HL3.out.1, HL3.out.2, ← HZO.out] at h1
            rw [← HI.out.1.len, hZQ, HZI.out, List.length_append, List.length_append, List.length_append, HKL.out]
            omega
          have hvl : (verB V).length = (stpB V.t V.n).length + 1 + (txtB V.v).length := by unfold verB; rw [List.length_append, List.length_cons]; omega
          have htl : (txtB V.v).length = (Pl.putI (V.v.length : Int)).length + V.v.length := by unfold txtB; rw [List.length_append]
          have hsl : mq + (stpB V.t V.n).length + 1 ≤ 900000 := by omega
          have hvv : V.v.length ≤ 900000 := by omega
          obtain ⟨fl, hfl⟩ : ∃ fl, fl = flagB V.g := ⟨_, rfl⟩
          have HFB : Hid (0 ≤ fl ∧ fl ≤ 255) := by rw [hfl]; exact flagB_bd V.g
          have CF : Hid (∀ u, Calls Tryz.prog 29 #[.bool V.g] u fun e w' => e = .returned (.int .u8 fl) ∧ w' = u) := fun u => by rw [hfl]; exact rflag14_any V.g u
          have HFL : Hid (fl = flagB V.g) := hfl
          obtain ⟨ST, hST⟩ : ∃ S, S = stpB V.t V.n := ⟨_, rfl⟩
          have CS : Hid (∀ u, Below wr.heap.size wr u → Calls Tryz.prog 28 #[.slice aq mq cq, .agg #[.int .i64 V.t, .int .u8 V.n]] u fun e w' => ∃ a' m' c', e = .returned (.slice a' m' c') ∧ Bt u w' (ZQ ++ ST) a' m' c' ∧ m' ≤ 900000) := fun u hb => by
            refine (rstp14_any aq cq mq ZQ V.t V.n u (HI.out.1.past hb).row HI.out.1.len (by omega) HI.out.1.nil ⟨HVO.out.n0, HVO.out.n1⟩).mono ?_
            rintro e w' ⟨a', m', c', rfl, h2, h3, h4⟩
            rw [hST]
            refine ⟨a', m', c', rfl, ⟨h3, h2.symm, HI.out.1.bytes.app (stp_bytes _ _ ⟨HVO.out.n0, HVO.out.n1⟩), h4⟩, ?_⟩
            rw [h2, List.length_append, HI.out.1.len]
            omega
          have HEND : Hid (∀ u a' m' c', Bt wr u (ZQ ++ ST ++ [fl]) a' m' c' → m' ≤ 900001 → Calls Tryz.prog 30 #[.slice a' m' c', .string (strOfNums V.v)] u fun e w' => ∃ a' m' c', e = .returned (.slice a' m' c') ∧ Hid (Bt w1 w' (ZI ++ (l.take (q + 1)).flatMap verB) a' m' c' ∧ ChnL w' (some ⟨gv, 0, none⟩) n3 c3 l)) := fun u a' m' c' hbt hle => by
            refine (hbt.txt (by omega) V.v HVO.out.val (by omega)).mono ?_
            rintro e w' ⟨a9, m9, c9, rfl, h9, _⟩
            refine ⟨a9, m9, c9, rfl, ?_, HI.out.2.past h9.below⟩
            have e1 : ZI ++ (l.take (q + 1)).flatMap verB = ZQ ++ ST ++ [fl] ++ txtB V.v := by rw [HNX.out, hZQ, hfl, hST]; unfold verB; simp [List.append_assoc]
            rw [e1]
            exact h9.base HI.out.1.below
          clear hV hvat hZQ hfl hST hmq hvl htl hsl hvv HIN HIK HLE
          go_wp2
          refine wp_region_noPanic ?_
          refine wp_region_held_drew (S := fun u => Below wr.heap.size wr u) (by kernel_rfl) ?_ (fun hHeld => ?_)
          · exact (Below.refl _ _).drew
          refine wpAnyH_take (i := 0) (v := ?_) rfl (by kernel_rfl) (by kernel_rfl) (by kernel_rfl) (fun _ _ _ h => h) (Or.inl ⟨by rfl, ?_⟩) hHeld ?_
          rotate_left
          · intro u hSu
            (go_simp) <;> (with_reducible rfl)
          change wpAnyH _ _ _ _ _ _ _ (Act.put _ (some 42) _) _
          simp only [Act.put, List.setIfInBounds_toArray, List.set_cons_zero, List.set_cons_succ]
          refine wpAnyH_take (i := 1) (v := ?_) rfl (by kernel_rfl) (by kernel_rfl) (by kernel_rfl) (fun _ _ _ h => h) (Or.inl ⟨by rfl, ?_⟩) hHeld ?_
          rotate_left
          · intro u hSu
            (go_simp) <;> (with_reducible rfl)
          change wpAnyH _ _ _ _ _ _ _ (Act.put _ (some 43) _) _
          simp only [Act.put, List.setIfInBounds_toArray, List.set_cons_zero, List.set_cons_succ]
          refine wpAnyH_take (i := 2) (v := ?_) rfl (by kernel_rfl) (by kernel_rfl) (by kernel_rfl) (fun _ _ _ h => h) (Or.inl ⟨by rfl, ?_⟩) hHeld ?_
          rotate_left
          · intro u hSu
            (go_simp) <;> (with_reducible rfl)
          change wpAnyH _ _ _ _ _ _ _ (Act.put _ (some 44) _) _
          simp only [Act.put, List.setIfInBounds_toArray, List.set_cons_zero, List.set_cons_succ]
          refine wpAnyH_take (i := 3) (v := ?_) rfl (by kernel_rfl) (by kernel_rfl) (by kernel_rfl) (fun _ _ _ h => h) (Or.inl ⟨by rfl, ?_⟩) hHeld ?_
          rotate_left
          · intro u hSu
            (go_simp) <;> (with_reducible rfl)
          change wpAnyH _ _ _ _ _ _ _ (Act.put _ (some 45) _) _
          simp only [Act.put, List.setIfInBounds_toArray, List.set_cons_zero, List.set_cons_succ]
          refine wpAnyH_take (i := 4) (v := ?_) rfl (by kernel_rfl) (by kernel_rfl) (by kernel_rfl) (fun _ _ _ h => h) (Or.inl ⟨by rfl, ?_⟩) hHeld ?_
          rotate_left
          · intro u hSu
            (go_simp) <;> (with_reducible rfl)
          change wpAnyH _ _ _ _ _ _ _ (Act.put _ (some 46) _) _
          simp only [Act.put, List.setIfInBounds_toArray, List.set_cons_zero, List.set_cons_succ]
          refine wpAnyH_take (i := 5) (v := ?_) rfl (by kernel_rfl) (by kernel_rfl) (by kernel_rfl) (fun _ _ _ h => h) (Or.inl ⟨by rfl, ?_⟩) hHeld ?_
          rotate_left
          · intro u hSu
            obtain ⟨z16, z17, z18, z19⟩ := HVC.out u hSu
            (go_simp) <;> (with_reducible rfl)
          change wpAnyH _ _ _ _ _ _ _ (Act.put _ (some 47) _) _
          simp only [Act.put, List.setIfInBounds_toArray, List.set_cons_zero, List.set_cons_succ]
          refine wpAnyH_take (i := 7) (v := ?_) rfl (by kernel_rfl) (by kernel_rfl) (by kernel_rfl) (fun _ _ _ h => h) (Or.inl ⟨by rfl, ?_⟩) hHeld ?_
          rotate_left
          · intro u hSu
            (go_simp) <;> (with_reducible rfl)
          change wpAnyH _ _ _ _ _ _ _ (Act.put _ (some 49) _) _
          simp only [Act.put, List.setIfInBounds_toArray, List.set_cons_zero, List.set_cons_succ]
          refine wpAnyH_take (i := 8) (v := ?_) rfl (by kernel_rfl) (by kernel_rfl) (by kernel_rfl) (fun _ _ _ h => h) (Or.inl ⟨by rfl, ?_⟩) hHeld ?_
          rotate_left
          · intro u hSu
            (go_simp) <;> (with_reducible rfl)
          change wpAnyH _ _ _ _ _ _ _ (Act.put _ (some 50) _) _
          simp only [Act.put, List.setIfInBounds_toArray, List.set_cons_zero, List.set_cons_succ]
          refine wpAnyH_take (i := 9) (v := ?_) rfl (by kernel_rfl) (by kernel_rfl) (by kernel_rfl) (fun _ _ _ h => h) (Or.inl ⟨by rfl, ?_⟩) hHeld ?_
          rotate_left
          · intro u hSu
            (go_simp) <;> (with_reducible rfl)
          change wpAnyH _ _ _ _ _ _ _ (Act.put _ (some 51) _) _
          simp only [Act.put, List.setIfInBounds_toArray, List.set_cons_zero, List.set_cons_succ]
          refine wpAnyH_take (i := 10) (v := ?_) rfl (by kernel_rfl) (by kernel_rfl) (by kernel_rfl) (fun _ _ _ h => h) (Or.inl ⟨by rfl, ?_⟩) hHeld ?_
          rotate_left
          · intro u hSu
            (go_simp) <;> (with_reducible rfl)
          change wpAnyH _ _ _ _ _ _ _ (Act.put _ (some 52) _) _
          simp only [Act.put, List.setIfInBounds_toArray, List.set_cons_zero, List.set_cons_succ]
          refine wpAnyH_take (i := 11) (v := ?_) rfl (by kernel_rfl) (by kernel_rfl) (by kernel_rfl) (fun _ _ _ h => h) (Or.inl ⟨by rfl, ?_⟩) hHeld ?_
          rotate_left
          · intro u hSu
            obtain ⟨z16, z17, z18, z19⟩ := HVC.out u hSu
            (go_simp) <;> (with_reducible rfl)
          change wpAnyH _ _ _ _ _ _ _ (Act.put _ (some 53) _) _
          simp only [Act.put, List.setIfInBounds_toArray, List.set_cons_zero, List.set_cons_succ]
          refine wpAnyH_ready (rs := [6]) (by kernel_rfl) (by simp) ?_
          refine AllReadyH.cons rfl (fun K hK => ?_) AllReadyH.nil
          go_simp
          go_at_call 28
          refine (CS.out _ hHeld).mono ?_
          rintro e y1 ⟨a4, m4, c4, rfl, hbt, hle⟩
          have B1 : Hid (Bt wr y1 (ZQ ++ ST) a4 m4 c4 ∧ m4 ≤ 900000) := ⟨hbt.base hHeld, hle⟩
          clear hbt hle
          refine hK.out _ _ ?_ (fun hHeld2 => ?_)
          · exact B1.out.1.below
          clear hK K hHeld
          have hHeld := hHeld2
          clear hHeld2
          refine wpAnyH_ready (rs := [12]) (by kernel_rfl) (by simp) ?_
          refine AllReadyH.cons rfl (fun K hK => ?_) AllReadyH.nil
          go_simp
          go_at_call 29
          refine (CF.out _).mono ?_
          rintro e u1 ⟨rfl, hu⟩
          obtain rfl := hu.symm
          clear hu
          refine hK.out _ _ ?_ (fun hHeld2 => ?_)
          · exact hHeld
          clear hK K hHeld
          have hHeld := hHeld2
          clear hHeld2
          refine wpAnyH_ready (rs := [13]) (by kernel_rfl) (by simp) ?_
          refine AllReadyH.cons rfl (fun K hK => ?_) AllReadyH.nil
          go_simp
          refine hK.out _ _ ?_ (fun hHeld2 => ?_)
          · exact hHeld.alloc hHeld.size _
          clear hK K hHeld
          have hHeld := hHeld2
          clear hHeld2
          refine wpAnyH_ready (rs := [14]) (by kernel_rfl) (by simp) ?_
          refine AllReadyH.cons rfl (fun K hK => ?_) AllReadyH.nil
          refine step_append_row rfl (.tmp 48) (.tmp 55) rfl wr.heap.size _ m4 (ZQ ++ ST) [fl] rfl (own_below B1.out.1.own ((Below.refl _ _).alloc (Nat.le_refl _) _) (Nat.le_refl _)) _ _ _ rfl (row_made _ fl HFB.out.1 HFB.out.2 _ rfl) rfl (fun h => by cases h) B1.out.1.bytes (by have := B1.out.2; omega) hHeld.size ?_
          intro a6 c6 w6 o6 g6
          obtain ⟨m6, hm6⟩ : ∃ m6, m6 = m4 + 1 := ⟨_, rfl⟩
          have B6 : Hid (Bt wr w6 (ZQ ++ ST ++ [fl]) a6 m6 c6 ∧ m6 ≤ 900001) := ⟨⟨by rw [hm6]; exact o6, by rw [List.length_append, B1.out.1.len, hm6]; rfl, B1.out.1.bytes.app (fun z hz => by simp at hz; rw [hz]; exact HFB.out), hHeld.grown g6 hHeld.size (fun r hr => (B1.out.1.own.lt r hr).1)⟩, by have := B1.out.2; omega⟩
          rw [← hm6]
          clear o6 g6 hm6
          refine hK.out _ _ ?_ (fun hHeld2 => ?_)
          · exact B6.out.1.below
          clear hK K hHeld
          have hHeld := hHeld2
          clear hHeld2
          refine wpAnyH_take (i := 15) (v := ?_) rfl (by kernel_rfl) (by kernel_rfl) (by kernel_rfl) (fun _ _ _ h => h) (Or.inl ⟨by rfl, ?_⟩) hHeld ?_
          rotate_left
          · intro u hSu
            (go_simp) <;> (with_reducible rfl)
          change wpAnyH _ _ _ _ _ _ _ (Act.put _ (some 4) _) _
          simp only [Act.put, List.setIfInBounds_toArray, List.set_cons_zero, List.set_cons_succ]
          refine wpAnyH_done (by kernel_rfl) ?_ _
          refine NoPanic.normal ?_
          obtain ⟨z16, z17, z18, z19⟩ := HVC.out w6 B6.out.1.below
          go_wp2_with (have hgo := B6.out; clear hgo; go_at_call 30; refine (HEND.out w6 a6 m6 c6 B6.out.1 B6.out.2).mono ?_; rintro e w9 ⟨a9, m9, c9, rfl, h9⟩; have H9 : Hid (Bt w1 w9 (ZI ++ (l.take (q + 1)).flatMap verB) a9 m9 c9 ∧ ChnL w9 (some ⟨gv, 0, none⟩) n3 c3 l) := h9; clear h9)
          go_roundw
          case rel => exact ⟨q + 1, m9, a9, c9, by omega, by go_num, rfl, H9⟩
          case measure => simp [intOf]; omega
        · obtain rfl : q = n3 := by omega
          have HS4 : Hid (Bt w1 wr (Pl.putI (N : Int) ++ (ks.take (i + 1)).flatMap (keyB L)) aq mq cq) := by
            have h1 := HI.out.1
            rw [List.take_of_length_le (by rw [HL3.out.2]; exact Nat.le_refl _)] at h1
            have e1 : Pl.putI (N : Int) ++ (ks.take (i + 1)).flatMap (keyB L) = ZI ++ l.flatMap verB := by
              rw [flat_next (keyB L) HK.out, ← List.append_assoc, ← HZO.out, HZI.out]
              unfold keyB chainB
              rw [← HL3.out.1, HL3.out.2]
              simp [List.append_assoc]
            rw [e1]
            exact h1
          go_wp2
          go_roundw
          case rel => exact ⟨i + 1, mq, aq, cq, by omega, by go_num, rfl, HS4⟩
          case measure => simp [intOf]; omega
    · obtain rfl : i = N := by omega
      have HE : Hid (Bt w wr (storeB L) ax m cx) := by
        have h1 := HS.out
        rw [List.take_of_length_le (by rw [HNK.out]; exact Nat.le_refl _), ← HSB.out] at h1
        exact h1.base K1.out.2
      go_wp2
      go_returns
      exact ⟨ax, m, cx, rfl, HE.out⟩
end Go.Proofs.YtpnjcflfnoamoaaGreat
