/-
  The landed reader: UpTo, Flag, take, Text.
  The landed reader: Stamp, Key.
-/
import Derived.Test.YtpnjcflfnoamoaaGreatAu31
import Derived.Laws.IdiomCopy
namespace Go.Proofs.YtpnjcflfnoamoaaGreat
open Go.RowKit
set_option linter.unusedVariables false

theorem lupto_any (g : Nat) (zs : List Int) (b : Bool) (n : Int) (hn0 : 0 ≤ n) (hn1 : n ≤ 1000) (w : World) (h : LR w g zs b) :
    Calls Tryz.prog 66 #[.pointer (some ⟨g, 0, none⟩), .int .i64 n] w fun e w' => ∃ v : Int, e = .returned (.int .i64 v) ∧ 0 ≤ v ∧ v ≤ n ∧ LRed w w' g zs b (countP n) v := by
  have HF : Hid (LR w g zs b) := h
  have hw : IntKind.u64.wrap n = n := by rw [IntKind.wrap_u64]; omega
  clear h
  go_enter Tryz.func66, Tryz.ntmps66
  go_wp2_with (first | (have hgo := HF.out; clear hgo; go_at_call 92; refine (lnum_any g zs b _ HF.out).mono ?_; rintro e w1 ⟨v, rfl, v0, v1, ⟨zs1, b1, L1, C1, D1⟩⟩; have H1 : Hid (LR w1 g zs1 b1 ∧ Chg w w1 (fun j => j = g) ∧ Rds numP (stL zs b) (stL zs1 b1) v) := ⟨L1, C1, D1⟩; clear L1 C1 D1 HF) | (have hgo := H1.out; clear hgo; go_at_call 93; refine (lfail_any g zs1 b1 _ H1.out.1).mono ?_; rintro e w2 ⟨rfl, L2, C2⟩; have H2 : Hid (LR w2 g [] true ∧ Chg w1 w2 (fun j => j = g)) := ⟨L2, C2⟩; clear L2 C2))
  · rename_i hc
    go_returns
    refine ⟨0, rfl, by omega, by omega, ⟨[], true, H2.out.1, H1.out.2.1.trans H2.out.2 (fun _ _ x => x), H1.out.2.2.count (.inl ⟨?_, rfl⟩)⟩⟩
    omega
  · rename_i hc
    go_returns
    have hv : v ≤ n := by omega
    have e : wrap64 v = v := by unfold wrap64; omega
    refine ⟨v, ?_, v0, hv, ⟨zs1, b1, H1.out.1, H1.out.2.1, H1.out.2.2.count (.inr ⟨by omega, rfl, rfl⟩)⟩⟩
    exact ret_int (by first | exact e | rfl)
theorem lflag_any (g : Nat) (zs : List Int) (b : Bool) (w : World) (h : LR w g zs b) :
    Calls Tryz.prog 109 #[.pointer (some ⟨g, 0, none⟩)] w fun e w' => ∃ v : Bool, e = .returned (.bool v) ∧ LRed w w' g zs b flagP v := by
  have HF : Hid (LR w g zs b) := h
  clear h
  go_enter Tryz.func109, Tryz.ntmps109
  go_wp2_with (first | (have hgo := HF.out; clear hgo; go_at_call 66; refine (lupto_any g zs b 1 (by omega) (by omega) _ HF.out).mono ?_; rintro e w1 ⟨v, rfl, v0, v1, ⟨zs1, b1, L1, C1, D1⟩⟩; have H1 : Hid (LR w1 g zs1 b1 ∧ Chg w w1 (fun j => j = g) ∧ Rds (countP 1) (stL zs b) (stL zs1 b1) v) := ⟨L1, C1, D1⟩; clear L1 C1 D1 HF))
  go_returns
  exact ⟨v == 1, rfl, ⟨zs1, b1, H1.out.1, H1.out.2.1, H1.out.2.2.seq (by have : (v == 1) = decide (v = 1) := rfl; rw [this]; exact .ret _ _)⟩⟩
theorem slice_upto (w : World) (a : Option Addr) (len cap n : Nat) (x : Int) (hx : x = n) (hk : n ≤ cap) :
    (Instr.slice 23 (.slice a len cap) none (some (.int .i64 x)) none).run Tryz.prog w = .ok (.slice a n cap) w := by
  subst hx
  obtain ⟨i0, hi, _⟩ := info_parts info5
  rw [run_slice_h w 23 _ len cap (by rw [elemB2]; exact Tryz.underlying23) .i64 (n : Int) (by omega) (by omega), elemB2, run_sizeOf w hi]
  simp [sliced]
  intro _
  cases a with
  | none => rfl
  | some x => obtain ⟨b0, o0, s0⟩ := x; simp only [Option.map_some]; unfold Addr.add; split <;> simp_all
theorem ltake_any (g : Nat) (zs : List Int) (b : Bool) (n : Nat) (hn1 : n ≤ 1000) (w : World) (h : LR w g zs b) :
    Calls Tryz.prog 94 #[.pointer (some ⟨g, 0, none⟩), .int .i64 n] w fun e w' => ∃ (a' : Option Addr) (c' : Nat) (l : List Int), e = .returned (.slice a' l.length c') ∧ Row w' a' l ∧ l.length ≤ c' ∧ (l = [] ∨ l.length = n) ∧ LRed w w' g zs b (bytesP n) l := by
  have HF : Hid (LR w g zs b) := h
  obtain ⟨a, cap, h⟩ := h
  have c0 := h.c0
  have f0 := h.free 0
  have H : Hid (LRd w g a cap zs b) := h
  obtain ⟨len, hl⟩ : ∃ len, len = zs.length := ⟨_, rfl⟩
  rw [← hl] at c0
  have HL : Hid (len = zs.length) := hl
  have hfew : len ≤ cap := by rw [hl]; exact h.few
  clear h hl
  by_cases hlt : len < n
  · have E : Hid (bytesP n zs = none) := by unfold bytesP; rw [if_pos (by rw [← HL.out]; omega)]; exact rfl
    have bl : (len : Int) < (n : Int) := by omega
    go_enter Tryz.func94, Tryz.ntmps94
    go_wp2_with (first | (go_at_call 93; refine (lfail_any g zs b _ HF.out).mono ?_; rintro e w2 ⟨rfl, L2, C2⟩; have H2 : Hid (LR w2 g [] true ∧ Chg w w2 (fun j => j = g)) := ⟨L2, C2⟩; clear L2 C2))
    go_returns
    exact ⟨none, 0, [], rfl, Row.nil _ _, Nat.zero_le _, .inl rfl, lr_none [] H2.out.1 H2.out.2 (fun _ => E.out)⟩
  · have bl : ¬ (len : Int) < (n : Int) := by omega
    have hs1 : ∀ w', (Instr.slice 23 (.slice a len cap) none (some (.int .i64 (n : Int))) none).run Tryz.prog w' = .ok (.slice a n cap) w' := fun w' => slice_upto w' a len cap n _ rfl (by omega)
    have hs2 : ∀ w', (Instr.slice 23 (.slice a len cap) (some (.int .i64 (n : Int))) none none).run Tryz.prog w' = .ok (.slice (cutA a cap n) (len - n) (cap - n)) w' := fun w' => slice_from w' a len cap n _ rfl (by omega)
    obtain ⟨a', ha'⟩ : ∃ a', a' = cutA a cap n := ⟨_, rfl⟩
    rw [← ha'] at hs2
    have HA : Hid (a' = cutA a cap n) := ha'
    clear ha'
    go_enter Tryz.func94, Tryz.ntmps94
    go_wp2
    go_returns
    have hR := H.out.on n (by rw [← HL.out]; omega)
    rw [← HL.out, ← HA.out] at hR
    have hlen : (zs.take n).length = n := by rw [List.length_take, ← HL.out]; omega
    have hrow : Row (w.setCell ⟨g, 0, none⟩ (.slice a' (len - n) (cap - n))) a (zs.take n) := (H.out.row.upto n).chg hR.2 (fun hz b0 o s e e1 => by have := H.out.far (fun e0 => hz (by rw [e0]; simp)) b0 o s e; omega)
    refine ⟨a, cap, zs.take n, by rw [hlen]; rfl, hrow, by rw [hlen]; omega, .inr hlen, ⟨zs.drop n, b, ⟨a', cap - n, hR.1⟩, hR.2, ?_⟩⟩
    cases b with
    | true => exact .of_bad _ _
    | false =>
      refine .yes ?_
      unfold bytesP
      rw [if_neg (by rw [← HL.out]; omega)]
      simp
theorem ltext_any (g : Nat) (zs : List Int) (b : Bool) (w : World) (h : LR w g zs b) :
    Calls Tryz.prog 110 #[.pointer (some ⟨g, 0, none⟩), .int .i64 200] w fun e w' => ∃ l : List Int, e = .returned (.string (strOfNums l)) ∧ Bys l ∧ l.length ≤ 200 ∧ LRed w w' g zs b txtP l := by
  have HF : Hid (LR w g zs b) := h
  clear h
  go_enter Tryz.func110, Tryz.ntmps110
  go_wp2_with (first | (have hgo := H1.out; clear hgo; go_at_call 94; refine (ltake_any g zs1 b1 N (by omega) _ H1.out.1).mono ?_; rintro e w2 ⟨a', c', l, rfl, R2, hc2, hl2, ⟨zs2, b2, L2, C2, D2⟩⟩; have hcv := str_of_row R2 c'; have H2 : Hid (Row w2 a' l ∧ (l = [] ∨ l.length = N) ∧ LR w2 g zs2 b2 ∧ Chg w1 w2 (fun j => j = g) ∧ Rds (bytesP N) (stL zs1 b1) (stL zs2 b2) l) := ⟨R2, hl2, L2, C2, D2⟩; clear R2 hc2 hl2 L2 C2 D2) | (have hgo := HF.out; clear hgo; go_at_call 66; refine (lupto_any g zs b 200 (by omega) (by omega) _ HF.out).mono ?_; rintro e w1 ⟨v, rfl, v0, v1, ⟨zs1, b1, L1, C1, D1⟩⟩; obtain ⟨N, rfl⟩ := Int.eq_ofNat_of_zero_le v0; have H1 : Hid (LR w1 g zs1 b1 ∧ Chg w w1 (fun j => j = g) ∧ Rds (countP 200) (stL zs b) (stL zs1 b1) (N : Int)) := ⟨L1, C1, D1⟩; clear L1 C1 D1 HF))
  go_returns
  refine ⟨l, rfl, H2.out.1.bytes, ?_, ⟨zs2, b2, H2.out.2.2.1, H1.out.2.1.trans H2.out.2.2.2.1 (fun _ _ x => x), H1.out.2.2.seq H2.out.2.2.2.2⟩⟩
  rcases H2.out.2.1 with e | e
  · rw [e]; simp
  · rw [e]; omega
end Go.Proofs.YtpnjcflfnoamoaaGreat

namespace Go.Proofs.YtpnjcflfnoamoaaGreat
open Go.RowKit
set_option linter.unusedVariables false

/-- What is copied into a key: sixteen bytes, or none. -/
theorem key_copiedR {v1 : World} {q : Nat} {l : List Int} {a : Option Addr} {c : Nat} (h : KeyMine v1 q 0 zeroK) (hr : Row v1 a l) (hl : l = [] ∨ Ky l) :
    ∃ v2, (Builtin.copy_ #[23, 23] 3 #[.slice (some ⟨q, 0, none⟩) 16 16, .slice a l.length c]).run Tryz.prog v1 = .ok (.int .i64 l.length) v2 ∧ KeyMine v2 q 0 (cpyK l) ∧ Chg v1 v2 (fun j => j = q) := by
  rcases hl with rfl | hk
  · exact ⟨v1, run_copy_none (P := Tryz.prog) v1 23 23 3 5 _ _ _ _ _ _ Tryz.underlying23 info5s (by simp), h, Chg.refl _ _⟩
  · have hne : l ≠ [] := fun e => by have := hk.len; rw [e] at this; simp at this
    rcases hr.cells with e | ⟨b, off, rfl, hc⟩
    · exact absurd e hne
    have hs : Nat.min l.length 16 = 16 := by rw [hk.len]; rfl
    have hr := run_copy_cells (P := Tryz.prog) v1 23 23 3 5 q 0 16 16 ⟨b, off, none⟩ l.length c (bs l) Tryz.underlying23 info5s (by rw [bs_len, hs, hk.len]) (fun j v hj => by
      obtain ⟨hj1, rfl⟩ := bs_at l j v hj
      rw [add_plain]; exact hc j hj1) (fun j hj => by rw [bs_len, hk.len] at hj; rw [h.lies.cell j hj]; rfl) (fun j hj => by rw [bs_len, hk.len] at hj; exact h.free j hj) (bs_one l)
    rw [bs_len] at hr
    refine ⟨_, hr, ?_, chg_cells q _ 0 v1⟩
    unfold cpyK
    rw [if_neg hne]
    exact h.store hk
theorem lbytes_ky {zs zs' : List Int} {b b' : Bool} {l : List Int} (hb : Bys l) (h0 : l = [] ∨ l.length = 16) : l = [] ∨ Ky l := h0.imp id (fun e => ⟨e, hb⟩)
set_option maxHeartbeats 1000000 in
theorem lkey_any (g : Nat) (zs : List Int) (b : Bool) (w : World) (h : LR w g zs b) :
    Calls Tryz.prog 67 #[.pointer (some ⟨g, 0, none⟩)] w fun e w' => ∃ l : List Int, e = .returned (kv l) ∧ Ky l ∧ LRed w w' g zs b (bytesP 16) l := by
  have H0 : OfR w ((w.alloc (.cells (kcs zeroK) 57)).alloc (.cells (kcs zeroK) 57)) zeroK := OfR.made w 57
  rw [zero_cells] at H0
  obtain ⟨u, hu⟩ : ∃ u, u = ((w.alloc (.cells #[.int .u8 0, .int .u8 0, .int .u8 0, .int .u8 0, .int .u8 0, .int .u8 0, .int .u8 0, .int .u8 0, .int .u8 0, .int .u8 0, .int .u8 0, .int .u8 0, .int .u8 0, .int .u8 0, .int .u8 0, .int .u8 0] 57)).alloc (.cells #[.int .u8 0, .int .u8 0, .int .u8 0, .int .u8 0, .int .u8 0, .int .u8 0, .int .u8 0, .int .u8 0, .int .u8 0, .int .u8 0, .int .u8 0, .int .u8 0, .int .u8 0, .int .u8 0, .int .u8 0, .int .u8 0] 57)) := ⟨_, rfl⟩
  rw [← hu] at H0
  have HU : Hid (_ = u) := hu.symm
  have H1 : Hid (OfR w u zeroK) := H0
  have HR : Hid (LR w g zs b) := h
  have HL : Hid (LR u g zs b ∧ LR u.drew g zs b) := ⟨h.past H0.below, h.past H0.below.drew⟩
  have HG : Hid (g < w.heap.size) := h.lt
  have HE : Hid (∀ v1 v2 zs1 b1 l, LR v1 g zs1 b1 → Chg u v1 (fun j => j = g) → Chg v1 v2 (fun j => j = w.heap.size + 1) → Rds (bytesP 16) (stL zs b) (stL zs1 b1) l → ∀ vs, LRed w (v2.setCells w.heap.size 0 vs) g zs b (bytesP 16) (cpyK l)) := fun v1 v2 zs1 b1 l R1 C1 C2 D1 vs => by
    have hg := HG.out
    have c3 := chg_cells w.heap.size vs 0 v2
    exact ⟨zs1, b1, (R1.above C2 (fun j e => by omega)).above c3 (fun j e => by omega), (((Chg.of_below H1.out.below _).trans C1 (fun _ _ x => x)).trans C2 (fun j hj e => by omega)).trans c3 (fun j hj e => by omega), D1.cpy⟩
  have HK : Hid (∀ v1, Chg u v1 (fun j => j = g) → KeyMine v1 w.heap.size 0 zeroK ∧ KeyMine v1 (w.heap.size + 1) 0 zeroK) := fun v1 C => by
    have hg := HG.out
    exact ⟨H1.out.res.chg C (by omega), H1.out.key.chg C (by omega)⟩
  clear h H0 hu
  go_enter Tryz.func67, Tryz.ntmps67
  go_wp2
  rw [HU.out]
  go_region_with (first | (go_at_call 94; (refine (ltake_any g zs b 16 (by omega) _ (by first | exact HL.out.1 | exact HL.out.2)).mono ?_; rintro e v1 ⟨a', c', l, rfl, R1, hc1, hl1, ⟨zs1, b1, L1, C0, D1⟩⟩; have C1 : Chg u v1 (fun j => j = g) := ⟨C0.os, C0.tape, C0.output, C0.size, C0.block⟩; clear C0; obtain ⟨m1, m2⟩ := HK.out v1 C1; have hk1 := lbytes_ky (zs := zs) (zs' := zs) (b := b) (b' := b) R1.bytes hl1; obtain ⟨v2, hcp, K2, C2⟩ := key_copiedR (c := c') m2 R1 hk1; have HE2 : Hid (∀ vs, LRed w (v2.setCells w.heap.size 0 vs) g zs b (bytesP 16) (cpyK l)) := HE.out v1 v2 zs1 b1 l L1 C1 C2 D1; have HM : Hid (KeyMine v2 w.heap.size 0 zeroK ∧ KeyMine v2 (w.heap.size + 1) 0 (cpyK l) ∧ Ky (cpyK l)) := ⟨m1.chg C2 (by omega), K2, cpy_ky hk1⟩; clear R1 C1 D1 hl1 hc1 L1 hk1 m1 m2 K2 C2)))
  all_goals go_wp2_with (first | ((with_reducible show wpList _ _ _ (Oper.mk (some 8) _ _ _ _ _ :: _) _ _); refine wpList_load_keyN 8 (by rfl) (by rfl) _ (by rfl) (w.heap.size + 1) 0 (by rfl) (cpyK l) HM.out.2.2 HM.out.2.1.lies ?_) | ((with_reducible show wpList _ _ _ (Oper.mk none _ _ _ _ _ :: _) _ _); refine wpList_store_keyU (by rfl) _ _ (by rfl) w.heap.size 0 zeroK (cpyK l) (by rfl) (by rfl) HM.out.2.2 HM.out.1 ?_; intro v3 hv; have HM3 : Hid (KeyAt v3 w.heap.size 0 (cpyK l)) := hv ▸ (HM.out.1.store HM.out.2.2).lies; have HE3 : Hid (LRed w v3 g zs b (bytesP 16) (cpyK l)) := hv ▸ HE2.out _; clear hv))
  all_goals refine bodyPost_ret (results_key1 rfl _ _ w.heap.size 0 (cpyK l) rfl HM.out.2.2 HM3.out) rfl ?_
  all_goals exact ⟨cpyK l, rfl, HM.out.2.2, HE3.out⟩
end Go.Proofs.YtpnjcflfnoamoaaGreat

