/-
  The landed reader: UpTo, Flag, take, Text.
  The landed reader: Stamp, Key.
  The landed reader: Stamp.
-/
import Derived.Test.YtpnjcflfnoamoaaGreatAu27
import Derived.Laws.IdiomCopy
namespace Go.Proofs.YtpnjcflfnoamoaaGreat
open Go.RowKit
set_option linter.unusedVariables false

theorem lupto_any (g : Nat) (zs : List Int) (b : Bool) (n : Int) (hn0 : 0 ≤ n) (hn1 : n ≤ 1000) (w : World) (h : LR w g zs b) :
    Calls Tryz.prog 66 #[.pointer (some ⟨g, 0, none⟩), .int .i64 n] w fun e w' => ∃ v : Int, e = .returned (.int .i64 v) ∧ 0 ≤ v ∧ v ≤ n ∧ LRed w w' g zs b (countP n) v := by
  have HF : Hid (LR w g zs b) := h
  have hw : IntKind.u64.wrap n = n := by rw [IntKind.wrap_u64]; omega
  clear h
  go_enter Tryz.func66, Tryz.ntmps66
  go_wp2_with (first | (have hgo := HF.out; clear hgo; go_at_call 92; refine (lnum_any g zs b _ HF.out).mono ?_; rintro e w1 ⟨v, rfl, v0, v1, ⟨zs1, b1, L1, C1, D1⟩⟩; have H1 : Hid (LR w1 g zs1 b1 ∧ Chg w w1 (fun j => j = g) ∧ Rds numP (stL zs b) (stL zs1 b1) v) := ⟨L1, C1, D1⟩; clear L1 C1 D1 HF) | (have hgo := H1.out; clear hgo; go_at_call 93; refine (lfail_any g zs1 b1 _ H1.out.1).mono ?_; rintro e w2 ⟨rfl, L2, C2⟩; have H2 : Hid (LR w2 g [] true ∧ Chg w1 w2 (fun j => j = g)) := ⟨L2, C2⟩; clear L2 C2))
  · rename_i hc
    go_returns
    refine ⟨0, rfl, by omega, by omega, ⟨[], true, H2.out.1, H1.out.2.1.trans H2.out.2 (fun _ _ x => x), H1.out.2.2.count (.inl ⟨?_, rfl⟩)⟩⟩
    omega
  · rename_i hc
    go_returns
    have hv : v ≤ n := by omega
    have e : wrap64 v = v := by unfold wrap64; omega
    refine ⟨v, ?_, v0, hv, ⟨zs1, b1, H1.out.1, H1.out.2.1, H1.out.2.2.count (.inr ⟨by omega, rfl, rfl⟩)⟩⟩
    exact ret_int (by first | exact e | rfl)
theorem lflag_any (g : Nat) (zs : List Int) (b : Bool) (w : World) (h : LR w g zs b) :
    Calls Tryz.prog 109 #[.pointer (some ⟨g, 0, none⟩)] w fun e w' => ∃ v : Bool, e = .returned (.bool v) ∧ LRed w w' g zs b flagP v := by
  have HF : Hid (LR w g zs b) := h
  clear h
  go_enter Tryz.func109, Tryz.ntmps109
  go_wp2_with (first | (have hgo := HF.out; clear hgo; go_at_call 66; refine (lupto_any g zs b 1 (by omega) (by omega) _ HF.out).mono ?_; rintro e w1 ⟨v, rfl, v0, v1, ⟨zs1, b1, L1, C1, D1⟩⟩; have H1 : Hid (LR w1 g zs1 b1 ∧ Chg w w1 (fun j => j = g) ∧ Rds (countP 1) (stL zs b) (stL zs1 b1) v) := ⟨L1, C1, D1⟩; clear L1 C1 D1 HF))
  go_returns
  exact ⟨v == 1, rfl, ⟨zs1, b1, H1.out.1, H1.out.2.1, H1.out.2.2.seq (by have : (v == 1) = decide (v = 1) := rfl; rw [this]; exact .ret _ _)⟩⟩
theorem slice_upto (w : World) (a : Option Addr) (len cap n : Nat) (x : Int) (hx : x = n) (hk : n ≤ cap) :
    (Instr.slice 23 (.slice a len cap) none (some (.int .i64 x)) none).run Tryz.prog w = .ok (.slice a n cap) w := by
  subst hx
  obtain ⟨i0, hi, _⟩ := info_parts info5
  rw [run_slice_h w 23 _ len cap (by rw [elemB2]; exact Tryz.underlying23) .i64 (n : Int) (by omega) (by omega), elemB2, run_sizeOf w hi]
  simp [sliced]
  intro _
  cases a with
  | none => rfl
  | some x => obtain ⟨b0, o0, s0⟩ := x; simp only [Option.map_some]; unfold Addr.add; split <;> simp_all
theorem ltake_any (g : Nat) (zs : List Int) (b : Bool) (n : Nat) (hn1 : n ≤ 1000) (w : World) (h : LR w g zs b) :
    Calls Tryz.prog 94 #[.pointer (some ⟨g, 0, none⟩), .int .i64 n] w fun e w' => ∃ (a' : Option Addr) (c' : Nat) (l : List Int), e = .returned (.slice a' l.length c') ∧ Row w' a' l ∧ l.length ≤ c' ∧ (l = [] ∨ l.length = n) ∧ LRed w w' g zs b (bytesP n) l := by
  have HF : Hid (LR w g zs b) := h
  obtain ⟨a, cap, h⟩ := h
  have c0 := h.c0
  have f0 := h.free 0
  have H : Hid (LRd w g a cap zs b) := h
  obtain ⟨len, hl⟩ : ∃ len, len = zs.length := ⟨_, rfl⟩
  rw [← hl] at c0
  have HL : Hid (len = zs.length) := hl
  have hfew : len ≤ cap := by rw [hl]; exact h.few
  clear h hl
  by_cases hlt : len < n
  · have E : Hid (bytesP n zs = none) := by unfold bytesP; rw [if_pos (by rw [← HL.out]; omega)]; exact rfl
    have bl : (len : Int) < (n : Int) := by omega
    go_enter Tryz.func94, Tryz.ntmps94
    go_wp2_with (first | (go_at_call 93; refine (lfail_any g zs b _ HF.out).mono ?_; rintro e w2 ⟨rfl, L2, C2⟩; have H2 : Hid (LR w2 g [] true ∧ Chg w w2 (fun j => j = g)) := ⟨L2, C2⟩; clear L2 C2))
    go_returns
    exact ⟨none, 0, [], rfl, Row.nil _ _, Nat.zero_le _, .inl rfl, lr_none [] H2.out.1 H2.out.2 (fun _ => E.out)⟩
  · have bl : ¬ (len : Int) < (n : Int) := by omega
    have hs1 : ∀ w', (Instr.slice 23 (.slice a len cap) none (some (.int .i64 (n : Int))) none).run Tryz.prog w' = .ok (.slice a n cap) w' := fun w' => slice_upto w' a len cap n _ rfl (by omega)
    have hs2 : ∀ w', (Instr.slice 23 (.slice a len cap) (some (.int .i64 (n : Int))) none none).run Tryz.prog w' = .ok (.slice (cutA a cap n) (len - n) (cap - n)) w' := fun w' => slice_from w' a len cap n _ rfl (by omega)
    obtain ⟨a', ha'⟩ : ∃ a', a' = cutA a cap n := ⟨_, rfl⟩
    rw [← ha'] at hs2
    have HA : Hid (a' = cutA a cap n) := ha'
    clear ha'
    go_enter Tryz.func94, Tryz.ntmps94
    go_wp2
    go_returns
    have hR := H.out.on n (by rw [← HL.out]; omega)
    rw [← HL.out, ← HA.out] at hR
    have hlen : (zs.take n).length = n := by rw [List.length_take, ← HL.out]; omega
    have hrow : Row (w.setCell ⟨g, 0, none⟩ (.slice a' (len - n) (cap - n))) a (zs.take n) := (H.out.row.upto n).chg hR.2 (fun hz b0 o s e e1 => by have := H.out.far (fun e0 => hz (by rw [e0]; simp)) b0 o s e; omega)
    refine ⟨a, cap, zs.take n, by rw [hlen]; rfl, hrow, by rw [hlen]; omega, .inr hlen, ⟨zs.drop n, b, ⟨a', cap - n, hR.1⟩, hR.2, ?_⟩⟩
    cases b with
    | true => exact .of_bad _ _
    | false =>
      refine .yes ?_
      unfold bytesP
      rw [if_neg (by rw [← HL.out]; omega)]
      simp
theorem ltext_any (g : Nat) (zs : List Int) (b : Bool) (w : World) (h : LR w g zs b) :
    Calls Tryz.prog 110 #[.pointer (some ⟨g, 0, none⟩), .int .i64 200] w fun e w' => ∃ l : List Int, e = .returned (.string (strOfNums l)) ∧ Bys l ∧ l.length ≤ 200 ∧ LRed w w' g zs b txtP l := by
  have HF : Hid (LR w g zs b) := h
  clear h
  go_enter Tryz.func110, Tryz.ntmps110
  go_wp2_with (first | (have hgo := H1.out; clear hgo; go_at_call 94; refine (ltake_any g zs1 b1 N (by omega) _ H1.out.1).mono ?_; rintro e w2 ⟨a', c', l, rfl, R2, hc2, hl2, ⟨zs2, b2, L2, C2, D2⟩⟩; have hcv := str_of_row R2 c'; have H2 : Hid (Row w2 a' l ∧ (l = [] ∨ l.length = N) ∧ LR w2 g zs2 b2 ∧ Chg w1 w2 (fun j => j = g) ∧ Rds (bytesP N) (stL zs1 b1) (stL zs2 b2) l) := ⟨R2, hl2, L2, C2, D2⟩; clear R2 hc2 hl2 L2 C2 D2) | (have hgo := HF.out; clear hgo; go_at_call 66; refine (lupto_any g zs b 200 (by omega) (by omega) _ HF.out).mono ?_; rintro e w1 ⟨v, rfl, v0, v1, ⟨zs1, b1, L1, C1, D1⟩⟩; obtain ⟨N, rfl⟩ := Int.eq_ofNat_of_zero_le v0; have H1 : Hid (LR w1 g zs1 b1 ∧ Chg w w1 (fun j => j = g) ∧ Rds (countP 200) (stL zs b) (stL zs1 b1) (N : Int)) := ⟨L1, C1, D1⟩; clear L1 C1 D1 HF))
  go_returns
  refine ⟨l, rfl, H2.out.1.bytes, ?_, ⟨zs2, b2, H2.out.2.2.1, H1.out.2.1.trans H2.out.2.2.2.1 (fun _ _ x => x), H1.out.2.2.seq H2.out.2.2.2.2⟩⟩
  rcases H2.out.2.1 with e | e
  · rw [e]; simp
  · rw [e]; omega
end Go.Proofs.YtpnjcflfnoamoaaGreat

namespace Go.Proofs.YtpnjcflfnoamoaaGreat
open Go.RowKit
set_option linter.unusedVariables false

/-- What is copied into a key: sixteen bytes, or none. -/
theorem key_copiedR {v1 : World} {q : Nat} {l : List Int} {a : Option Addr} {c : Nat} (h : KeyMine v1 q 0 zeroK) (hr : Row v1 a l) (hl : l = [] ∨ Ky l) :
    ∃ v2, (Builtin.copy_ #[23, 23] 3 #[.slice (some ⟨q, 0, none⟩) 16 16, .slice a l.length c]).run Tryz.prog v1 = .ok (.int .i64 l.length) v2 ∧ KeyMine v2 q 0 (cpyK l) ∧ Chg v1 v2 (fun j => j = q) := by
  rcases hl with rfl | hk
  · exact ⟨v1, run_copy_none (P := Tryz.prog) v1 23 23 3 5 _ _ _ _ _ _ Tryz.underlying23 info5s (by simp), h, Chg.refl _ _⟩
  · have hne : l ≠ [] := fun e => by have := hk.len; rw [e] at this; simp at this
    rcases hr.cells with e | ⟨b, off, rfl, hc⟩
    · exact absurd e hne
    have hs : Nat.min l.length 16 = 16 := by rw [hk.len]; rfl
    have hr := run_copy_cells (P := Tryz.prog) v1 23 23 3 5 q 0 16 16 ⟨b, off, none⟩ l.length c (bs l) Tryz.underlying23 info5s (by rw [bs_len, hs, hk.len]) (fun j v hj => by
      obtain ⟨hj1, rfl⟩ := bs_at l j v hj
      rw [add_plain]; exact hc j hj1) (fun j hj => by rw [bs_len, hk.len] at hj; rw [h.lies.cell j hj]; rfl) (fun j hj => by rw [bs_len, hk.len] at hj; exact h.free j hj) (bs_one l)
    rw [bs_len] at hr
    refine ⟨_, hr, ?_, chg_cells q _ 0 v1⟩
    unfold cpyK
    rw [if_neg hne]
    exact h.store hk
theorem lbytes_ky {zs zs' : List Int} {b b' : Bool} {l : List Int} (hb : Bys l) (h0 : l = [] ∨ l.length = 16) : l = [] ∨ Ky l := h0.imp id (fun e => ⟨e, hb⟩)
set_option maxHeartbeats 1000000 in
theorem lkey_any (g : Nat) (zs : List Int) (b : Bool) (w : World) (h : LR w g zs b) :
    Calls Tryz.prog 67 #[.pointer (some ⟨g, 0, none⟩)] w fun e w' => ∃ l : List Int, e = .returned (kv l) ∧ Ky l ∧ LRed w w' g zs b (bytesP 16) l := by
  have H0 : OfR w ((w.alloc (.cells (kcs zeroK) 57)).alloc (.cells (kcs zeroK) 57)) zeroK := OfR.made w 57
  rw [zero_cells] at H0
  obtain ⟨u, hu⟩ : ∃ u, u = ((w.alloc (.cells #[.int .u8 0, .int .u8 0, .int .u8 0, .int .u8 0, .int .u8 0, .int .u8 0, .int .u8 0, .int .u8 0, .int .u8 0, .int .u8 0, .int .u8 0, .int .u8 0, .int .u8 0, .int .u8 0, .int .u8 0, .int .u8 0] 57)).alloc (.cells #[.int .u8 0, .int .u8 0, .int .u8 0, .int .u8 0, .int .u8 0, .int .u8 0, .int .u8 0, .int .u8 0, .int .u8 0, .int .u8 0, .int .u8 0, .int .u8 0, .int .u8 0, .int .u8 0, .int .u8 0, .int .u8 0] 57)) := ⟨_, rfl⟩
  rw [← hu] at H0
  have HU : Hid (_ = u) := hu.symm
  have H1 : Hid (OfR w u zeroK) := H0
  have HR : Hid (LR w g zs b) := h
  have HL : Hid (LR u g zs b ∧ LR u.drew g zs b) := ⟨h.past H0.below, h.past H0.below.drew⟩
  have HG : Hid (g < w.heap.size) := h.lt
  have HE : Hid (∀ v1 v2 zs1 b1 l, LR v1 g zs1 b1 → Chg u v1 (fun j => j = g) → Chg v1 v2 (fun j => j = w.heap.size + 1) → Rds (bytesP 16) (stL zs b) (stL zs1 b1) l → ∀ vs, LRed w (v2.setCells w.heap.size 0 vs) g zs b (bytesP 16) (cpyK l)) := fun v1 v2 zs1 b1 l R1 C1 C2 D1 vs => by
    have hg := HG.out
    have c3 := chg_cells w.heap.size vs 0 v2
    exact ⟨zs1, b1, (R1.above C2 (fun j e => by omega)).above c3 (fun j e => by omega), (((Chg.of_below H1.out.below _).trans C1 (fun _ _ x => x)).trans C2 (fun j hj e => by omega)).trans c3 (fun j hj e => by omega), D1.cpy⟩
  have HK : Hid (∀ v1, Chg u v1 (fun j => j = g) → KeyMine v1 w.heap.size 0 zeroK ∧ KeyMine v1 (w.heap.size + 1) 0 zeroK) := fun v1 C => by
    have hg := HG.out
    exact ⟨H1.out.res.chg C (by omega), H1.out.key.chg C (by omega)⟩
  clear h H0 hu
  go_enter Tryz.func67, Tryz.ntmps67
  go_wp2
  rw [HU.out]
  go_region_with (first | (go_at_call 94; (refine (ltake_any g zs b 16 (by omega) _ (by first | exact HL.out.1 | exact HL.out.2)).mono ?_; rintro e v1 ⟨a', c', l, rfl, R1, hc1, hl1, ⟨zs1, b1, L1, C0, D1⟩⟩; have C1 : Chg u v1 (fun j => j = g) := ⟨C0.os, C0.tape, C0.output, C0.size, C0.block⟩; clear C0; obtain ⟨m1, m2⟩ := HK.out v1 C1; have hk1 := lbytes_ky (zs := zs) (zs' := zs) (b := b) (b' := b) R1.bytes hl1; obtain ⟨v2, hcp, K2, C2⟩ := key_copiedR (c := c') m2 R1 hk1; have HE2 : Hid (∀ vs, LRed w (v2.setCells w.heap.size 0 vs) g zs b (bytesP 16) (cpyK l)) := HE.out v1 v2 zs1 b1 l L1 C1 C2 D1; have HM : Hid (KeyMine v2 w.heap.size 0 zeroK ∧ KeyMine v2 (w.heap.size + 1) 0 (cpyK l) ∧ Ky (cpyK l)) := ⟨m1.chg C2 (by omega), K2, cpy_ky hk1⟩; clear R1 C1 D1 hl1 hc1 L1 hk1 m1 m2 K2 C2)))
  all_goals go_wp2_with (first | ((with_reducible show wpList _ _ _ (Oper.mk (some 8) _ _ _ _ _ :: _) _ _); refine wpList_load_keyN 8 (by rfl) (by rfl) _ (by rfl) (w.heap.size + 1) 0 (by rfl) (cpyK l) HM.out.2.2 HM.out.2.1.lies ?_) | ((with_reducible show wpList _ _ _ (Oper.mk none _ _ _ _ _ :: _) _ _); refine wpList_store_keyU (by rfl) _ _ (by rfl) w.heap.size 0 zeroK (cpyK l) (by rfl) (by rfl) HM.out.2.2 HM.out.1 ?_; intro v3 hv; have HM3 : Hid (KeyAt v3 w.heap.size 0 (cpyK l)) := hv ▸ (HM.out.1.store HM.out.2.2).lies; have HE3 : Hid (LRed w v3 g zs b (bytesP 16) (cpyK l)) := hv ▸ HE2.out _; clear hv))
  all_goals refine bodyPost_ret (results_key1 rfl _ _ w.heap.size 0 (cpyK l) rfl HM.out.2.2 HM3.out) rfl ?_
  all_goals exact ⟨cpyK l, rfl, HM.out.2.2, HE3.out⟩
end Go.Proofs.YtpnjcflfnoamoaaGreat

namespace Go.Proofs.YtpnjcflfnoamoaaGreat
open Go.RowKit
set_option linter.unusedVariables false

theorem sunpack_ex (v : Int) (w : World) (hv : 0 ≤ v ∧ v ≤ 18446744073709551615) :
    Calls Tryz.prog 130 #[.int .u64 v] w fun e w' => ∃ t n E : Int, e = .returned (.tuple #[.agg #[.int .i64 t, .int .u8 n], .int .i64 E]) ∧ ((E = 0 ∧ t = v / 256 ∧ n = v % 256 ∧ v < 9223372036854775808) ∨ (E = 1 ∧ t = 0 ∧ n = 0 ∧ ¬ v < 9223372036854775808)) ∧ Below w.heap.size w w' := by
  refine (sunpack_any v w hv).mono ?_
  rintro e w' ⟨rfl, hb⟩
  by_cases h : v < 9223372036854775808
  · rw [if_pos h, if_pos h, if_pos h]
    exact ⟨_, _, _, rfl, .inl ⟨rfl, rfl, rfl, h⟩, hb⟩
  · rw [if_neg h, if_neg h, if_neg h]
    exact ⟨_, _, _, rfl, .inr ⟨rfl, rfl, rfl, h⟩, hb⟩
/-- A box for the answer, another for the stamp, and the reader beside them. -/
structure WsB (w u : World) (g q : Nat) (zs : List Int) (b : Bool) (t n : Int) : Prop where
  r0 : u.cell? ⟨w.heap.size, 0, none⟩ = some (.int .i64 0)
  r1 : u.cell? ⟨w.heap.size, 1, none⟩ = some (.int .u8 0)
  s0 : u.frozen? ⟨w.heap.size, 0, none⟩ = false
  s1 : u.frozen? ⟨w.heap.size, 1, none⟩ = false
  q0 : u.cell? ⟨q, 0, none⟩ = some (.int .i64 t)
  q1 : u.cell? ⟨q, 1, none⟩ = some (.int .u8 n)
  lr : LR u g zs b
  chg : Chg w u (fun j => j = g)
  ne : w.heap.size < q
theorem WsB.turn {w u u' : World} {g q : Nat} {zs zs' : List Int} {b b' : Bool} {t n : Int} (h : WsB w u g q zs b t n) (hg : g < w.heap.size) (hc : Chg u u' (fun j => j = g)) (hl : LR u' g zs' b') : WsB w u' g q zs' b' t n := by
  have b1 := hc.block w.heap.size (lt_of_cell h.r0) (by omega)
  have b2 := hc.block q (lt_of_cell h.q0) (by have := h.ne; omega)
  exact ⟨(cell_of_block b1 0).1.trans h.r0, (cell_of_block b1 1).1.trans h.r1, (cell_of_block b1 0).2.trans h.s0, (cell_of_block b1 1).2.trans h.s1, (cell_of_block b2 0).1.trans h.q0, (cell_of_block b2 1).1.trans h.q1, hl, h.chg.trans hc (fun _ _ x => x), h.ne⟩
theorem chg_twoS (u : World) (q : Nat) (x y : Value) : Chg u ((u.setCell ⟨q, 0, none⟩ x).setCell ⟨q, 1, none⟩ y) (fun j => j = q) :=
  (Chg.set (X := fun j => j = q) u ⟨q, 0, none⟩ x rfl).trans (Chg.set (X := fun j => j = q) _ ⟨q, 1, none⟩ y rfl) (fun _ _ x => x)
theorem two_cellsS {u : World} {q : Nat} {x y x0 y0 : Value} (h0 : u.cell? ⟨q, 0, none⟩ = some x0) (h1 : u.cell? ⟨q, 1, none⟩ = some y0) : ((u.setCell ⟨q, 0, none⟩ x).setCell ⟨q, 1, none⟩ y).cell? ⟨q, 0, none⟩ = some x ∧ ((u.setCell ⟨q, 0, none⟩ x).setCell ⟨q, 1, none⟩ y).cell? ⟨q, 1, none⟩ = some y :=
  ⟨(set_off _ _ _ _ _ (by omega)).trans (World.cell?_setCell_same _ _ _ h0), World.cell?_setCell_same _ _ _ ((set_off _ _ _ _ _ (by omega)).trans h1)⟩
theorem WsB.done {w u : World} {g q : Nat} {zs : List Int} {b : Bool} {t n : Int} (h : WsB w u g q zs b t n) (hg : g < w.heap.size) (x y : Value) : LR ((u.setCell ⟨w.heap.size, 0, none⟩ x).setCell ⟨w.heap.size, 1, none⟩ y) g zs b ∧ Chg w ((u.setCell ⟨w.heap.size, 0, none⟩ x).setCell ⟨w.heap.size, 1, none⟩ y) (fun j => j = g) := by
  have c := chg_twoS u w.heap.size x y
  exact ⟨h.lr.above c (fun j e => by omega), h.chg.trans c (fun j hj e => by omega)⟩
theorem lstamp_any (g : Nat) (zs : List Int) (b : Bool) (w : World) (h : LR w g zs b) :
    Calls Tryz.prog 108 #[.pointer (some ⟨g, 0, none⟩)] w fun e w' => ∃ (t n : Int), e = .returned (.agg #[.int .i64 t, .int .u8 n]) ∧ okS t ∧ 0 ≤ n ∧ n ≤ 255 ∧ LRed w w' g zs b stampP (t, n) := by
  have H : Hid (LR (w.alloc (.cells #[.int .i64 0, .int .u8 0] 42)) g zs b) := h.past ((Below.refl _ _).alloc (Nat.le_refl _) _)
  have HG : Hid (g < w.heap.size) := h.lt
  have HS : Hid (∀ w1 w2 zs1 b1 t n, LR w1 g zs1 b1 → Chg (w.alloc (.cells #[.int .i64 0, .int .u8 0] 42)) w1 (fun j => j = g) → Below w1.heap.size w1 w2 → WsB w (w2.alloc (.cells #[.int .i64 t, .int .u8 n] 42)) g w2.heap.size zs1 b1 t n) := fun w1 w2 zs1 b1 t n L1 C1 B2 => by
    have hg := HG.out
    obtain ⟨r0, r1, s0, s1, z1, z2⟩ := st_kept hg C1 B2
    have ba : Below w2.heap.size w2 (w2.alloc (.cells #[.int .i64 t, .int .u8 n] 42)) := (Below.refl _ _).alloc (Nat.le_refl _) _
    refine ⟨?_, ?_, ?_, ?_, by rw [World.cell?_alloc_new]; rfl, by rw [World.cell?_alloc_new]; rfl, (L1.past B2).past ba, ?_, z2⟩
    · rw [ba.cell (p := ⟨w.heap.size, 0, none⟩) z2]; exact r0
    · rw [ba.cell (p := ⟨w.heap.size, 1, none⟩) z2]; exact r1
    · rw [ba.frozen (p := ⟨w.heap.size, 0, none⟩) z2]; exact s0
    · rw [ba.frozen (p := ⟨w.heap.size, 1, none⟩) z2]; exact s1
    · exact (((Chg.of_below ((Below.refl _ _).alloc (Nat.le_refl _) _) _).trans C1 (fun _ _ x => x)).trans (Chg.of_below B2 (fun j => j = g)) (fun _ _ x => x)).trans (Chg.of_below ba (fun j => j = g)) (fun _ _ x => x)
  clear h
  go_enter Tryz.func108, Tryz.ntmps108
  go_wp2_with (first | (go_at_call 92; refine (lnum_any g zs b _ H.out).mono ?_; rintro e w1 ⟨v, rfl, v0, v1, ⟨zs1, b1, L1, C1, D1⟩⟩; have H1 : Hid (LR w1 g zs1 b1 ∧ Chg (w.alloc (.cells #[.int .i64 0, .int .u8 0] 42)) w1 (fun j => j = g) ∧ Rds numP (stL zs b) (stL zs1 b1) v) := ⟨L1, C1, D1⟩; clear L1 C1 D1) | (have hgo := H1.out; clear hgo; go_at_call 130; refine (sunpack_ex v _ ⟨v0, v1⟩).mono ?_; rintro e w2 ⟨t, n, E, rfl, hE, B2⟩; have H2 : Hid (WsB w (w2.alloc (.cells #[.int .i64 t, .int .u8 n] 42)) g w2.heap.size zs1 b1 t n) := HS.out w1 w2 zs1 b1 t n H1.out.1 H1.out.2.1 B2; have HE : Hid ((E = 0 ∧ t = v / 256 ∧ n = v % 256 ∧ v < 9223372036854775808) ∨ (E = 1 ∧ t = 0 ∧ n = 0 ∧ ¬ v < 9223372036854775808)) := hE; have HL2 : Hid (LR w2 g zs1 b1 ∧ Chg w w2 (fun j => j = g)) := ⟨H1.out.1.past B2, ((Chg.of_below ((Below.refl _ _).alloc (Nat.le_refl _) _) _).trans H1.out.2.1 (fun _ _ x => x)).trans (Chg.of_below B2 (fun j => j = g)) (fun _ _ x => x)⟩; obtain ⟨r0, r1, s0, s1, z1, z2⟩ := st_kept HG.out H1.out.2.1 B2; clear B2 hE) | (have hgo := H2.out; clear hgo; go_at_call 93; refine (lfail_any g zs1 b1 _ H2.out.lr).mono ?_; rintro e w3 ⟨rfl, L3, C3⟩; have H3 : Hid (WsB w w3 g w2.heap.size [] true t n) := H2.out.turn HG.out C3 L3; clear r0 r1 s0 s1; obtain ⟨r0, r1, s0, s1, q0, q1, _, _, _⟩ := H3.out; clear L3 C3 H2))
  all_goals rcases HE.out with ⟨rfl, rfl, rfl, hv⟩ | ⟨rfl, rfl, rfl, hv⟩
  all_goals first | (exfalso; rename_i hc; simp at hc; done) | skip
  · have R := H3.out.done HG.out (.int .i64 0) (.int .u8 0)
    have C := two_cellsS (x := .int .i64 0) (y := .int .u8 0) r0 r1
    refine bodyPost_ret (results_stp rfl _ _ w.heap.size 0 0 rfl C.1 C.2) rfl ?_
    exact ⟨0, 0, rfl, ⟨by omega, by omega⟩, by omega, by omega, ⟨[], true, R.1, R.2, H1.out.2.2.stamp (.inl ⟨by omega, rfl⟩)⟩⟩
  · have hg := HG.out
    have c := chg_two w2 w.heap.size (.int .i64 (v / 256)) (.int .u8 (v % 256)) (.cells #[.int .i64 (v / 256), .int .u8 (v % 256)] 42)
    have C := two_cells (x := .int .i64 (v / 256)) (y := .int .u8 (v % 256)) r0 r1 (.cells #[.int .i64 (v / 256), .int .u8 (v % 256)] 42)
    refine bodyPost_ret (results_stp rfl _ _ w.heap.size (v / 256) (v % 256) rfl C.1 C.2) rfl ?_
    exact ⟨v / 256, v % 256, rfl, ⟨by omega, by omega⟩, by omega, by omega, ⟨zs1, b1, HL2.out.1.above c (fun j e => by omega), HL2.out.2.trans c (fun j hj e => by omega), H1.out.2.2.stamp (.inr ⟨hv, rfl, rfl, rfl⟩)⟩⟩
end Go.Proofs.YtpnjcflfnoamoaaGreat

