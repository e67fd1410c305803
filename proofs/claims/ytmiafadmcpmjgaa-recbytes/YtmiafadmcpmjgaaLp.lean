/-
  The landed rec: GetWrites.
  slices.Concat of nothing and bytes; the landed rec: PutWrites behind nothing.
-/
import Derived.Test.YtmiafadmcpmjgaaRl
import Derived.Test.YtmiafadmcpmjgaaKs
import Derived.Test.YtmiafadmcpmjgaaLg
import Derived.Test.YtmiafadmcpmjgaaWr
import Derived.Lib.AppendZeros
namespace Go.Proofs.Ytmiafadmcpmjgaa
open Go.RowKit
set_option linter.unusedVariables false
set_option linter.unusedSimpArgs false

theorem gws_bad {zs zs' : List Int} {l : List Wrt} (h : Rds wrsP (some zs) (stL zs' true) l) : getWL zs = none := by
  rcases h.cases with ⟨e, _⟩ | ⟨s, _, e⟩
  · unfold getWL; rw [e]
  · exact absurd e (by unfold stL; simp)
theorem gws_ok {zs zs' : List Int} {l : List Wrt} (h : Rds wrsP (some zs) (stL zs' false) l) : wrsP zs = some (l, zs') := by
  rcases h.cases with ⟨_, e⟩ | ⟨s, e1, e2⟩
  · exact absurd e (by unfold stL; simp)
  · unfold stL at e2
    simp at e2
    rw [e1, e2]
theorem LR.few {w : World} {g : Nat} {zs : List Int} {b : Bool} (h : LR w g zs b) : zs.length ≤ 1099511627776 := by
  obtain ⟨a, c, h⟩ := h
  exact h.most
set_option maxHeartbeats 4000000 in
set_option maxRecDepth 4000 in
theorem lGetWs_any (a : Option Addr) (cap len : Nat) (zs : List Int) (w : World) (hr : Row w a zs) (hl : zs.length = len) (hc : len ≤ cap) (hm : len ≤ 1000000) :
    Calls Try.prog 10 #[.slice a len cap] w fun e w' => ∃ (ax : Option Addr) (N cx : Nat) (l : List Wrt) (n E : Int), e = .returned (.tuple #[.slice ax N cx, .int .i64 n, .int .i64 E]) ∧ l.length = N ∧ N ≤ cx ∧ N ≤ 16 ∧ WrtsAt w' ax l ∧ Below w.heap.size w w' ∧ ((∃ r, getWL zs = some (l, r) ∧ n = zs.length - r.length ∧ E = 0) ∨ (getWL zs = none ∧ l = [] ∧ n = 0 ∧ E = 3)) := by
  have CO : Hid (Calls Try.prog 24 #[.slice a len cap] w fun e w' => e = .returned (.pointer (some ⟨w.heap.size, 0, none⟩)) ∧ LR w' w.heap.size zs false ∧ Below w.heap.size w w') := lover_any a cap len zs w hr hl hc (by omega)
  have HLN : Hid (zs.length = len) := hl
  clear hr hl hc
  go_enter Try.func10, Try.ntmps10
  go_wp2_with (first
    | (have hgo := HX.out; clear hgo; go_at_call 32; refine CG.out.mono ?_; rintro e w3 ⟨rfl, hb3⟩; have HZ : Hid (Below w2.heap.size w2 w3 ∧ LR w3 w.heap.size zs2 b2) := ⟨hb3, HX.out.2.1.past hb3⟩; clear hb3)
    | (have hgo := HZ.out; clear hgo; go_at_call 27; refine (lleft_any _ zs2 b2 _ HZ.out.2).mono ?_; rintro e u1 ⟨rfl, hu⟩; obtain rfl := hu.symm; clear hu)
    | (have hgo := HX.out; clear hgo; go_at_call 27; refine (lleft_any _ zs2 b2 _ HX.out.2.1).mono ?_; rintro e u1 ⟨rfl, hu⟩; obtain rfl := hu.symm; clear hu)
    | (have hgo := HX.out; clear hgo; go_at_call 26; refine (lbad_any _ zs2 b2 _ HX.out.2.1).mono ?_; rintro e u1 ⟨rfl, hu⟩; obtain rfl := hu.symm; clear hu)
    | (have hgo := H1.out; clear hgo; go_at_call 31; refine (lgetws_any w.heap.size zs false _ H1.out.1).mono ?_; rintro e w2 ⟨ax, N, cx, l, rfl, hN, h16, hcx, hat, hv, hfar, ⟨zs2, b2, L2, C2, D2⟩⟩; have hz2 := L2.few; obtain ⟨L, hL⟩ : ∃ L, L = zs2.length := ⟨_, rfl⟩; have HX : Hid ((l.length = N ∧ N ≤ 16 ∧ N ≤ cx ∧ WrtsAt w2 ax l) ∧ LR w2 w.heap.size zs2 b2 ∧ Rds wrsP (some zs) (stL zs2 b2) l ∧ Below w.heap.size w w2) := ⟨⟨hN, h16, hcx, hat⟩, L2, D2, H1.out.2.trans ((C2.mono (Y := fun j => w.heap.size ≤ j) (fun k _ e => by omega)).below H1.out.2.size (fun k e => e))⟩; obtain ⟨mw, hmw⟩ : ∃ mw, mw = mayW l 1 := ⟨_, rfl⟩; have CG : Hid (Calls Try.prog 32 #[.slice ax N cx] w2 fun e w' => e = .returned (.bool mw) ∧ Below w2.heap.size w2 w') := (by rw [hmw]; exact sgoods_any ax N cx l w2 hN hcx (by omega) hat); have HMW : Hid (mw = mayW l 1) := hmw; clear hN h16 hcx hat hv hfar L2 C2 D2 H1 hmw hL)
    | (go_at_call 24; refine CO.out.mono ?_; rintro e w1 ⟨rfl, hL, hB⟩; have H1 : Hid (LR w1 w.heap.size zs false ∧ Below w.heap.size w w1) := ⟨hL, hB⟩; clear hL hB))
  · have hb : b2 = true := by assumption
    subst hb
    go_ret3
    exact ⟨none, 0, 0, [], 0, 3, rfl, rfl, Nat.le_refl _, Nat.zero_le _, ⟨.inl rfl, fun W hW => by simp at hW⟩, HX.out.2.2.2, .inr ⟨gws_bad HX.out.2.2.1, rfl, rfl, rfl⟩⟩
  · have hb : b2 = false := by cases b2 <;> simp_all
    have hm : mw = false := by cases mw <;> simp_all
    have hn : 0 < N := by assumption
    subst hb
    have h1 := gws_ok HX.out.2.2.1
    have HBAD : getWL zs = none := by
      unfold getWL; rw [h1]; simp only
      rw [if_pos ⟨by rw [HX.out.1.1]; exact hn, by rw [← HMW.out]; exact hm⟩]
    go_ret3
    exact ⟨none, 0, 0, [], 0, 3, rfl, rfl, Nat.le_refl _, Nat.zero_le _, ⟨.inl rfl, fun W hW => by simp at hW⟩, HX.out.2.2.2.trans (HZ.out.1.mono HX.out.2.2.2.size), .inr ⟨HBAD, rfl, rfl, rfl⟩⟩
  · have hb : b2 = false := by cases b2 <;> simp_all
    have hm : mw = true := by cases mw <;> simp_all
    subst hb
    have h1 := gws_ok HX.out.2.2.1
    have HOK : getWL zs = some (l, zs2) := by
      unfold getWL; rw [h1]; simp only
      rw [if_neg (fun e => by rw [← HMW.out, hm] at e; simp at e)]
    go_ret3
    exact ⟨ax, N, cx, l, _, 0, rfl, HX.out.1.1, HX.out.1.2.2.1, HX.out.1.2.1, HX.out.1.2.2.2.past HZ.out.1, HX.out.2.2.2.trans (HZ.out.1.mono HX.out.2.2.2.size), .inl ⟨zs2, HOK, by rw [HLN.out], rfl⟩⟩
  · have hb : b2 = false := by cases b2 <;> simp_all
    have hn : ¬ 0 < N := by assumption
    subst hb
    have h1 := gws_ok HX.out.2.2.1
    have HOK : getWL zs = some (l, zs2) := by
      unfold getWL; rw [h1]; simp only
      rw [if_neg (fun e => hn (by rw [← HX.out.1.1]; exact e.1))]
    go_ret3
    exact ⟨ax, N, cx, l, _, 0, rfl, HX.out.1.1, HX.out.1.2.2.1, HX.out.1.2.1, HX.out.1.2.2.2, HX.out.2.2.2, .inl ⟨zs2, HOK, by rw [HLN.out], rfl⟩⟩
end Go.Proofs.Ytmiafadmcpmjgaa

namespace Go.Proofs.Ytmiafadmcpmjgaa
open Go.RowKit
set_option linter.unusedVariables false
set_option linter.unusedSimpArgs false

theorem lgrow_any (n : Nat) (hn : n ≤ 10000000) (w : World) :
    Calls Try.prog 67 #[.slice none 0 0, .int .i64 n] w fun e w' => ∃ a c, e = .returned (.slice a 0 c) ∧ w'.ownsRow w.heap.size 5 1 (.slice a 0 c) 0 (bs []) ∧ Below w.heap.size w w' := by
  have hs0 := fun w' => slice_upto w' none 0 0 0 0 rfl (Nat.le_refl _)
  by_cases h0 : n = 0
  · subst h0
    go_enter Try.func67, Try.ntmps67
    go_wp2
    go_returns
    exact ⟨none, 0, rfl, ⟨rfl, .inl ⟨rfl, rfl⟩⟩, Below.refl _ _⟩
  · obtain ⟨i0, hi, hz0, hz1, hz2⟩ := info_parts info5
    have hr := fun ty => Lib.run_append_nil_zeros (P := Try.prog) w 32 3 ty 5 i0 (.int .u8 0) .i64 .i64 Try.underlying32 (by kernel_rfl) hi hz0 n (by omega) (by omega) (by omega) (by rw [hz2]; omega)
    obtain ⟨cp, hcp⟩ : ∃ cp, cp = grownCap w n 0 5 := ⟨_, rfl⟩
    have hge : n ≤ cp := by rw [hcp]; exact grownCap_ge w n 0 5
    have hle : cp ≤ maxLen := by rw [hcp]; exact grownCap_le_maxLen w n 0 5 (by unfold maxLen; omega)
    rw [← hcp] at hr
    obtain ⟨cur, hcur⟩ : ∃ cur, cur = Builtin.zeroCells (Value.int .u8 0).cells n ++ Builtin.zeroCells (Value.int .u8 0).cells (cp - n) := ⟨_, rfl⟩
    rw [← hcur] at hr
    have hsz : cur.size = cp := by
      rw [hcur]
      simp only [Array.size_append, size_zeroCells]
      show n * 1 + (cp - n) * 1 = cp
      omega
    have HR : Hid (∀ ty, (Builtin.append_ #[32, 3] ty #[.slice none 0 0, .int .i64 n]).run Try.prog w = .ok (.slice (some ⟨w.heap.size, 0, none⟩) n cp) (w.drew.alloc (.cells cur 5))) := hr
    have HO : Hid ((w.drew.alloc (.cells cur 5)).ownsRow w.heap.size 5 1 (.slice (some ⟨w.heap.size, 0, none⟩) 0 cp) 0 (bs [])) := ⟨rfl, .inr ⟨w.heap.size, cp, cur, rfl, Nat.le_refl _, heap_alloc_new w.drew _, Nat.zero_le _, hle, by omega, rfl⟩⟩
    have HB : Hid (Below w.heap.size w (w.drew.alloc (.cells cur 5))) := (Below.refl _ _).drew.alloc (Nat.le_refl _) _
    have hs1 := fun w' => slice_upto w' (some ⟨w.heap.size, 0, none⟩) n cp 0 0 rfl (Nat.zero_le _)
    have hpos : (0 : Int) < (n : Int) := by omega
    obtain ⟨V, hV⟩ : ∃ V, V = w.drew.alloc (.cells cur 5) := ⟨_, rfl⟩
    rw [← hV] at HR HO HB
    clear hr hcp hcur hsz hi hV hge hle
    go_enter Try.func67, Try.ntmps67
    go_wp2_with (at_builtin; refine Lib.wpList_append_run _ rfl _ _ _ _ rfl _ _ rfl rfl _ _ (HR.out _) ?_)
    go_returns
    exact ⟨_, cp, rfl, HO.out, HB.out⟩
set_option maxHeartbeats 2000000 in
theorem lconcat_any (q : Nat) (a2 : Option Addr) (n2 c2 : Nat) (zs : List Int) (w : World) (h0 : w.cell? ⟨q, 0, none⟩ = some (.slice none 0 0)) (h1 : w.cell? ⟨q, 1, none⟩ = some (.slice a2 n2 c2)) (hr : Row w a2 zs) (hl : zs.length = n2) (hn : a2 = none → n2 = 0 ∧ c2 = 0) (hm : n2 ≤ 1000000) :
    Calls Try.prog 29 #[.slice (some ⟨q, 0, none⟩) 2 2] w fun e w' => ∃ a c, e = .returned (.slice a n2 c) ∧ w'.ownsRow w.heap.size 5 1 (.slice a n2 c) n2 (bs zs) ∧ Below w.heap.size w w' := by
  have HR : Hid (Row w a2 zs) := hr
  have HL : Hid (zs.length = n2) := hl
  have HN : Hid (a2 = none → n2 = 0 ∧ c2 = 0) := hn
  have FC : Hid (∀ u, Below w.heap.size w u → u.cell? ⟨q, 0, none⟩ = some (.slice none 0 0) ∧ u.cell? ⟨q, 1, none⟩ = some (.slice a2 n2 c2)) := fun u hu => ⟨(hu.cell (p := ⟨q, 0, none⟩) (cell_lt h0)).trans h0, (hu.cell (p := ⟨q, 1, none⟩) (cell_lt h0)).trans h1⟩
  have hw : IntKind.i64.wrap (n2 : Int) = n2 := by rw [IntKind.wrap_i64]; omega
  clear hr hl hn
  go_enter Try.func29, Try.ntmps29
  go_wp2
  refine wp_loop_rounds 3 ?_
  rw [rounds_succ]
  go_wp2
  rw [rounds_succ]
  go_wp2
  rw [rounds_succ]
  go_wp2_with (first | (go_at_call 67; refine (lgrow_any n2 (by omega) _).mono ?_; rintro e w1 ⟨a3, c3, rfl, ho3, hb3⟩; have H3 : Hid (w1.ownsRow w.heap.size 5 1 (.slice a3 0 c3) 0 (bs []) ∧ Below w.heap.size w w1) := ⟨ho3, hb3⟩; obtain ⟨e0, e1⟩ := FC.out w1 hb3; clear ho3 hb3))
  refine wp_loop_rounds 3 ?_
  rw [rounds_succ]
  go_wp2_with (at_builtin; refine wpList_append_on rfl (.tmp 31) (.tmp 32) rfl w.heap.size w H3.out.2 H3.out.2.size _ 0 [] [] rfl H3.out.1 _ _ _ rfl (Row.nil _ _) rfl (fun _ => ⟨rfl, rfl⟩) (fun z hz => by simp at hz) (by omega) ?_; intro a4 c4 w4 o4 b4; have H4 : Hid (w4.ownsRow w.heap.size 5 1 (.slice a4 0 c4) 0 (bs []) ∧ Below w.heap.size w w4) := ⟨o4, b4⟩; obtain ⟨e0', e1'⟩ := FC.out w4 b4; clear o4 b4)
  rw [rounds_succ]
  go_wp2_with (at_builtin; refine wpList_append_on rfl (.tmp 31) (.tmp 32) rfl w.heap.size w H4.out.2 H4.out.2.size _ 0 [] zs rfl H4.out.1 _ _ _ rfl (HR.out.below H4.out.2 (Nat.le_refl _)) HL.out HN.out (fun z hz => by simp at hz) (by omega) ?_; intro a5 c5 w5 o5 b5; have H5 : Hid (w5.ownsRow w.heap.size 5 1 (.slice a5 n2 c5) n2 (bs zs) ∧ Below w.heap.size w w5) := ⟨by simpa using o5, b5⟩; obtain ⟨e0'', e1''⟩ := FC.out w5 b5; clear o5 b5)
  rw [rounds_succ]
  go_wp2
  go_returns
  exact ⟨a5, c5, by simp, H5.out.1, H5.out.2⟩
/-- Writes' bytes, behind nothing. -/
theorem lPutWs_any (a : Option Addr) (N c : Nat) (l : List Wrt) (w : World) (hl : l.length = N) (hN : N ≤ 100) (hv : ∀ V ∈ l, V.v.length ≤ 1000) (hat : WrtsAt w a l) :
    Calls Try.prog 9 #[.slice none 0 0, .slice a N c] w fun e w' => ∃ a' c', e = .returned (.slice a' (wrtsB l).length c') ∧ w'.ownsRow w.heap.size 5 1 (.slice a' (wrtsB l).length c') (wrtsB l).length (bs (wrtsB l)) ∧ Below w.heap.size w w' := by
  have hkey : ∀ W ∈ l, Ky W.k ∧ W.v.length ≤ 1000 := fun W hW => ⟨(hat.oks W hW).key, hv W hW⟩
  have hlen : (wrtsB l).length ≤ 200000 := by
    have h1 := wrts_len hkey
    have h2 := Pl.put_length_le 9 (l.length : Int)
    unfold wrtsB
    rw [List.length_append]
    unfold Pl.putI
    omega
  have hby : Bys (wrtsB l) := by
    unfold wrtsB
    refine Bys.app (putI_bytes _ (by omega) (by omega)) (fun z hz => ?_)
    obtain ⟨W, hW, hz⟩ := List.mem_flatMap.1 hz
    have hok := hat.oks W hW
    unfold wrtB txtB at hz
    rcases List.mem_append.1 hz with e | e
    · exact hok.key.bytes z e
    · rcases List.mem_cons.1 e with rfl | e
      · cases W.g <;> decide
      · rcases List.mem_append.1 e with e | e
        · exact putI_bytes _ (by omega) (by have := hv W hW; omega) z e
        · exact hok.val z e
  have HBY : Hid (Bys (wrtsB l)) := hby
  obtain ⟨ZS, hZS⟩ : ∃ ZS, ZS = wrtsB l := ⟨_, rfl⟩
  obtain ⟨LN, hLN⟩ : ∃ LN, LN = ZS.length := ⟨_, rfl⟩
  have HLN : Hid (ZS.length = LN) := hLN.symm
  have CW : Hid (Calls Try.prog 28 #[.pointer (some ⟨w.heap.size, 0, none⟩), .slice a N c] (w.alloc (.cells #[.slice none 0 0] 62)) fun e w' => e = .returned (.tuple #[]) ∧ PS (w.alloc (.cells #[.slice none 0 0] 62)) w.heap.size w' ZS) := by
    have h := (PS.made w 62).writes (by simp) a N c l hl hN hv (fun u hu => hat.past (((Below.refl _ _).alloc (Nat.le_refl _) _).trans hu))
    rw [List.nil_append, ← hZS] at h
    exact h
  rw [← hZS] at hlen HBY ⊢
  rw [← hLN] at hlen ⊢
  have HB0 : Hid (∀ u, Below w.heap.size (w.alloc (.cells #[.slice none 0 0] 62)) u → Below w.heap.size w u) := fun u hu => ((Below.refl _ _).alloc (Nat.le_refl _) _).trans hu
  have CC : Hid (∀ w2 a1 c1, w2.ownsRow (w.heap.size + 1) 5 1 (.slice a1 LN c1) LN (bs ZS) → Below w.heap.size w w2 → Calls Try.prog 29 #[.slice (some ⟨w2.heap.size, 0, none⟩) 2 2] (w2.alloc (.cells #[.slice none 0 0, .slice a1 LN c1] 32)) fun e w' => ∃ a c, e = .returned (.slice a LN c) ∧ w'.ownsRow w.heap.size 5 1 (.slice a LN c) LN (bs ZS) ∧ Below w.heap.size w w') := fun w2 a1 c1 ho hb => by
    obtain ⟨a', c', e, hrow, _⟩ := own_shape ho HBY.out
    have hnil : a1 = none → LN = 0 ∧ c1 = 0 := fun e1 => by
      rcases ho.2 with ⟨e2, e3⟩ | ⟨g, cap, cur, e2, _⟩
      · injection e2 with _ _ e4
        exact ⟨e3, e4⟩
      · injection e2 with e4
        rw [e1] at e4; cases e4
    injection e with e1 e2 e3
    subst e1
    have ba : Below w2.heap.size w2 (w2.alloc (.cells #[.slice none 0 0, .slice a1 LN c1] 32)) := (Below.refl _ _).alloc (Nat.le_refl _) _
    refine (lconcat_any w2.heap.size a1 LN c1 ZS _ (by rw [World.cell?_alloc_new]; rfl) (by rw [World.cell?_alloc_new]; rfl) (hrow.below ba (Nat.le_refl _)) HLN.out hnil (by omega)).mono ?_
    rintro e w' ⟨a', c', rfl, h1, h2⟩
    have hs : w.heap.size ≤ (w2.alloc (.cells #[.slice none 0 0, .slice a1 LN c1] 32)).heap.size := Nat.le_trans hb.size ba.size
    exact ⟨a', c', rfl, ⟨h1.1, h1.2.imp (fun x => x) (fun ⟨g, cc, cur, x1, x2, x3⟩ => ⟨g, cc, cur, x1, Nat.le_trans hs x2, x3⟩)⟩, (hb.trans (ba.mono hb.size)).trans (h2.mono hs)⟩
  clear hkey hby hat hv hl hN hZS hLN
  go_enter Try.func9, Try.ntmps9
  go_wp2_with (first
    | (have hgo := H2.out; clear hgo; go_at_call 29; refine (CC.out w2 a1 c1 H2.out.1 H2.out.2).mono ?_; rintro e w3 ⟨a3, c3, rfl, k1, k2⟩; have H3 : Hid (w3.ownsRow w.heap.size 5 1 (.slice a3 LN c3) LN (bs ZS) ∧ Below w.heap.size w w3) := ⟨k1, k2⟩; clear k1 k2)
    | (have hgo := H1.out; clear hgo; go_at_call 30; have hbt := H1.out.bytes; rw [HLN.out] at hbt; refine Calls.mono hbt ?_; rintro e w2 ⟨a1, c1, rfl, k1, k2⟩; have H2 : Hid (w2.ownsRow (w.heap.size + 1) 5 1 (.slice a1 LN c1) LN (bs ZS) ∧ Below w.heap.size w w2) := ⟨k1, HB0.out _ k2⟩; clear k1 k2 hbt)
    | (go_at_call 28; refine CW.out.mono ?_; rintro e w1 ⟨rfl, k1⟩; have H1 : Hid (PS (w.alloc (.cells #[.slice none 0 0] 62)) w.heap.size w1 ZS) := k1; clear k1))
  go_returns
  exact ⟨a3, c3, rfl, H3.out.1, H3.out.2⟩
end Go.Proofs.Ytmiafadmcpmjgaa

