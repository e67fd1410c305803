/-
  What Put of the landed chains answers and leaves; with ChainC1 to ChainC3: all of package chain.
-/
import Derived.Test.YtileidbdmpeciaaGreatAu88
import Derived.Test.YtileidbdmpeciaaGreatAu70
import Derived.Test.YtileidbdmpeciaaGreatShelf
namespace Go.Proofs.YtileidbdmpeciaaGreat
open Go.RowKit
set_option linter.unusedVariables false

theorem sclone_any (s : ByteArray) (w : World) (hs : s.size ≤ 281474976710656) :
    Calls Tryz.prog 131 #[.string s] w fun e w' => e = .returned (.string s) ∧ Below w.heap.size w w' := by
  have CC : Hid (Calls Tryz.prog 156 #[.string s] w fun e w' => e = .returned (.string s) ∧ Below w.heap.size w w') := Go.Proofs.Tryz.stringslite_Clone s w hs
  go_enter Tryz.func131, Tryz.ntmps131
  go_wp2_with (go_at_call 156; refine CC.out.mono ?_; rintro e w1 ⟨rfl, hb1⟩; have HB1 : Hid (Below w.heap.size w w1) := hb1; clear hb1)
  go_ret
  exact ⟨rfl, HB1.out⟩
theorem run_build_cver (w : World) (t n : Int) (s : ByteArray) (g : Bool) :
    (Instr.buildSlice 133 1 #[(0, .agg #[.int .i64 t, .int .u8 n, .string s, .bool g])]).run Tryz.prog w = .ok (.slice (some ⟨w.heap.size, 0, none⟩) 1 1) (w.alloc (.cells #[.int .i64 t, .int .u8 n, .string s, .bool g] 136)) := by
  have hf : Instr.fill (fun i => some (i * 4, 4)) (encC zeroV).toArray [(0, .agg #[.int .i64 t, .int .u8 n, .string s, .bool g])] = some #[.int .i64 t, .int .u8 n, .string s, .bool g] := by
    rw [fill_step _ (encC zeroV) 0 0 4 [.int .i64 t, .int .u8 n, .string s, .bool g] rfl rfl (by rw [encC_len]; omega)]
    rfl
  simp [Instr.buildSlice, run_underlying Tryz.underlying133]
  generalize hz : Array.map _ (Array.range 4) = Z
  have hz2 : Z = (encC zeroV).toArray := by rw [← hz]; kernel_rfl
  rw [hz2, hf]
  simp [newRow]
theorem step_build_cver {w : World} {ops : Array Oper} {o : Oper} {a : Act} {K : Act → World → Prop} {Q : Exit → Act → World → Prop} {E : Prop} (hgd : o.guard = none) (x : Operand) (ho : o.op = .buildSlice 133 1 #[(0, x)]) (t n : Int) (s : ByteArray) (g : Bool) (hx : a.eval x = .agg #[.int .i64 t, .int .u8 n, .string s, .bool g])
    (h : K (a.put o.dst (.slice (some ⟨w.heap.size, 0, none⟩) 1 1)) (w.alloc (.cells #[.int .i64 t, .int .u8 n, .string s, .bool g] 136))) : if Region.wanted o (yielded ops a.tmps) = true then Oper.wp Tryz.prog o a w K Q else E := by
  have hw : Region.wanted o (yielded ops a.tmps) = true := by simp [Region.wanted, hgd]
  rw [if_pos hw]
  have hrun := run_build_cver w t n s g
  unfold Oper.wp
  simp [execOp, ho, hx, hrun, Result.andThen]
  exact h
/-- The version's box behind its value's clone. -/
structure UFact (w U : World) (t n : Int) (s : ByteArray) (g : Bool) : Prop where
  below : Below w.heap.size w U
  c0 : U.cell? ⟨w.heap.size, 0, none⟩ = some (.int .i64 t)
  c1 : U.cell? ⟨w.heap.size, 1, none⟩ = some (.int .u8 n)
  c2 : U.cell? ⟨w.heap.size, 2, none⟩ = some (.string s)
  c3 : U.cell? ⟨w.heap.size, 3, none⟩ = some (.bool g)
theorem UFact.made {w w3 : World} {t n : Int} {s : ByteArray} {g : Bool} (hb : Below w.heap.size w w3) (h0 : w3.cell? ⟨w.heap.size, 0, none⟩ = some (.int .i64 t)) (h1 : w3.cell? ⟨w.heap.size, 1, none⟩ = some (.int .u8 n)) (h2 : w3.cell? ⟨w.heap.size, 2, none⟩ = some (.string s)) (h3 : w3.cell? ⟨w.heap.size, 3, none⟩ = some (.bool g)) :
    UFact w (w3.setCell ⟨w.heap.size, 2, none⟩ (.string s)) t n s g :=
  ⟨hb.setCell (Nat.le_refl _) _, (World.cell?_setCell_other _ _ _ _ (by intro e; injection e with _ e2; omega)).trans h0, (World.cell?_setCell_other _ _ _ _ (by intro e; injection e with _ e2; omega)).trans h1, World.cell?_setCell_same _ _ _ h2, (World.cell?_setCell_other _ _ _ _ (by intro e; injection e with _ e2; omega)).trans h3⟩
theorem UFact.take {w w3 : World} {t n : Int} {s : ByteArray} {g : Bool} (hb : Below w.heap.size w w3) (h0 : w3.cell? ⟨w.heap.size, 0, none⟩ = some (.int .i64 t)) (h1 : w3.cell? ⟨w.heap.size, 1, none⟩ = some (.int .u8 n)) (h2 : w3.cell? ⟨w.heap.size, 2, none⟩ = some (.string s)) (h3 : w3.cell? ⟨w.heap.size, 3, none⟩ = some (.bool g)) :
    ∃ U, Hid (w3.setCell ⟨w.heap.size, 2, none⟩ (.string s) = U) ∧ Hid (UFact w U t n s g) := ⟨_, rfl, UFact.made hb h0 h1 h2 h3⟩
set_option maxHeartbeats 4000000 in
set_option maxRecDepth 4000 in
theorem cput_any (p : Nat) (L : List Ver) (X : Foot) (V : Ver) (hV : VerIn V) (w : World) (h : ChD w p L X) :
    Calls Tryz.prog 138 #[.pointer (some ⟨p, 0, none⟩), cvv V] w fun e w' => e = .returned (.int .i64 (putV L V).1) ∧ ∃ X', ChD w' p (putV L V).2 X' ∧ Did w w' X X' := by
  obtain ⟨k0, t, n, v, g⟩ := V
  have hk0 : k0 = zeroK := hV.key
  subst hk0
  obtain ⟨V, hVd⟩ : ∃ V : Ver, V = ⟨zeroK, t, n, v, g⟩ := ⟨_, rfl⟩
  obtain ⟨X0, hX0⟩ : ∃ X0, X0 = strOfNums v := ⟨_, rfl⟩
  have hVk : V.k = zeroK := by rw [hVd]
  rw [← hVd] at hV
  show Calls Tryz.prog 138 #[.pointer (some ⟨p, 0, none⟩), .agg #[.int .i64 t, .int .u8 n, .string (strOfNums v), .bool g]] w fun e w' => e = .returned (.int .i64 (putV L ⟨zeroK, t, n, v, g⟩).1) ∧ ∃ X', ChD w' p (putV L ⟨zeroK, t, n, v, g⟩).2 X' ∧ Did w w' X X'
  rw [← hVd, ← hX0]
  obtain ⟨W0, hW0⟩ : ∃ U, U = w.alloc (.cells #[.int .i64 t, .int .u8 n, .string X0, .bool g] 136) := ⟨_, rfl⟩
  have HB0 : Hid (Below w.heap.size w W0) := by rw [hW0]; exact (Below.refl _ _).alloc (Nat.le_refl _) _
  have HAT : Hid (∀ u, Below W0.heap.size W0 u → Hid (Below w.heap.size w u ∧ Below W0.heap.size W0 u) ∧ u.cell? ⟨w.heap.size, 0, none⟩ = some (.int .i64 t) ∧ u.cell? ⟨w.heap.size, 1, none⟩ = some (.int .u8 n) ∧ u.cell? ⟨w.heap.size, 2, none⟩ = some (.string X0) ∧ u.cell? ⟨w.heap.size, 3, none⟩ = some (.bool g) ∧ u.frozen? ⟨w.heap.size, 2, none⟩ = false) := fun u hb => by
    have hlt : w.heap.size < W0.heap.size := by rw [hW0]; simp
    refine ⟨⟨HB0.out.trans (hb.mono HB0.out.size), hb⟩, (hb.cell (p := ⟨w.heap.size, 0, none⟩) hlt).trans ?_, (hb.cell (p := ⟨w.heap.size, 1, none⟩) hlt).trans ?_, (hb.cell (p := ⟨w.heap.size, 2, none⟩) hlt).trans ?_, (hb.cell (p := ⟨w.heap.size, 3, none⟩) hlt).trans ?_, (hb.frozen (p := ⟨w.heap.size, 2, none⟩) hlt).trans ?_⟩
    · rw [hW0, World.cell?_alloc_new]; rfl
    · rw [hW0, World.cell?_alloc_new]; rfl
    · rw [hW0, World.cell?_alloc_new]; rfl
    · rw [hW0, World.cell?_alloc_new]; rfl
    · rw [hW0]; exact World.frozen?_alloc_new _ _ _ _
  have HC : Hid (ChD w p L X) := h
  have HCHN : Hid (Chn (putV L V).2) := h.chn.put hVk ⟨hV.n.1, hV.n.2, hV.val⟩
  have HSAME : Hid ((putV L V).2 = L → ∀ u, Below w.heap.size w u → ∃ X', ChD u p (putV L V).2 X' ∧ Did w u X X') := fun e u hb => by rw [e]; exact ⟨X, HC.out.past hb, Did.stay hb HC.out.lt⟩
  obtain ⟨mv, hmv⟩ : ∃ mv, mv = mayV V := ⟨_, rfl⟩
  have CG : Hid (∀ u, Calls Tryz.prog 157 #[.agg #[.int .i64 t, .int .u8 n, .string X0, .bool g]] u fun e w' => e = .returned (.bool mv) ∧ Below u.heap.size u w') := fun u => by
    have := cgood_any V hV u
    rw [hmv, hX0]
    rw [hVd] at this ⊢
    exact this
  obtain ⟨lo, hlo⟩ : ∃ k, k = loN L t n := ⟨_, rfl⟩
  obtain ⟨ht, hht⟩ : ∃ b, b = hitN L t n := ⟨_, rfl⟩
  have CF : Hid (∀ u, Below w.heap.size w u → Calls Tryz.prog 158 #[.pointer (some ⟨p, 0, none⟩), .agg #[.int .i64 t, .int .u8 n]] u fun e w' => e = .returned (.tuple #[.int .i64 (lo : Nat), .bool ht]) ∧ Below u.heap.size u w') := fun u hb => by rw [hlo, hht]; exact cfind_any p L X t n u (h.past hb)
  have hput := put_one h.chn.one hVk
  have hcl : clashV L V = ht := by rw [hht, ← hit_clash h.chn.one hVk, hVd]
  have hrk : rk L V = lo := by rw [hlo, ← lo_rk, hVd]
  rw [← hmv, hcl, hrk] at hput
  have hlol : lo ≤ L.length := by rw [hlo]; exact lo_le L t n
  obtain ⟨a, c, hc1, hcr, hc3⟩ := h.list
  have hc2 : w.ownsRow 0 136 4 (.slice a L.length c) L.length (L.flatMap encC) := hcr
  clear hcr
  obtain ⟨N, hN⟩ : ∃ N, N = L.length := ⟨_, rfl⟩
  have hfew : N ≤ 50 := by rw [hN]; exact h.chn.few
  rw [← hN] at hc1 hc2 hc3 hput hlol
  have HCE : Hid (∀ u, Below w.heap.size w u → u.cell? ⟨p, 0, none⟩ = some (.slice a N c) ∧ u.frozen? ⟨p, 0, none⟩ = false) := fun u hb => ⟨(hb.cell (p := ⟨p, 0, none⟩) (h.lt p h.own)).trans hc1, (hb.frozen (p := ⟨p, 0, none⟩) (h.lt p h.own)).trans h.free⟩
  obtain ⟨R, hR⟩ : ∃ R, R = putV L V := ⟨_, rfl⟩
  rw [← hR] at hput HCHN HSAME ⊢
  rw [hW0] at HB0 HAT
  cases mv with
  | false =>
    rw [if_pos rfl] at hput
    have HE := HSAME.out (by rw [hput])
    have HE2 : Hid (∀ u, Below w.heap.size w u → ∃ X', ChD u p R.2 X' ∧ Did w u X X') := HE
    have HR1 : Hid (R.1 = 1) := by show _ = _; rw [hput]
    clear hput HE HSAME hW0 hmv hlo hht hcl hrk hc1 hc2 hc3 hN h hVd hX0 hV hR HCHN hVk
    go_enter Tryz.func138, Tryz.ntmps138
    go_wp2_with (go_at_call 157; refine (CG.out _).mono ?_; rintro e w1 ⟨rfl, hb1⟩; obtain ⟨HB1, r0, r1, r2, r3, r4⟩ := HAT.out w1 hb1; clear hb1)
    go_ret
    exact ⟨by rw [HR1.out]; rfl, HE2.out _ HB1.out.1⟩
  | true =>
    rw [if_neg (by simp)] at hput
    cases ht with
    | true =>
      rw [if_pos rfl] at hput
      have HE := HSAME.out (by rw [hput])
      have HE2 : Hid (∀ u, Below w.heap.size w u → ∃ X', ChD u p R.2 X' ∧ Did w u X X') := HE
      have HR1 : Hid (R.1 = 5) := by show _ = _; rw [hput]
      clear hput HE HSAME hW0 hmv hlo hht hcl hrk hc1 hc2 hc3 hN h hVd hX0 hV hR HCHN hVk
      go_enter Tryz.func138, Tryz.ntmps138
      go_wp2_with (first | (go_at_call 157; refine (CG.out _).mono ?_; rintro e w1 ⟨rfl, hb1⟩; obtain ⟨HB1, r0, r1, r2, r3, r4⟩ := HAT.out w1 hb1; clear hb1) | (go_at_call 158; refine (CF.out _ HB1.out.1).mono ?_; rintro e w2 ⟨rfl, hb2⟩; obtain ⟨HB2, s0, s1, s2, s3, s4⟩ := HAT.out w2 (HB1.out.2.trans (hb2.mono HB1.out.2.size)); have y0 := (HCE.out w2 HB2.out.1).1; clear hb2))
      go_ret
      exact ⟨by rw [HR1.out]; rfl, HE2.out _ HB2.out.1⟩
    | false =>
      rw [if_neg (by simp)] at hput
      by_cases h50 : 50 ≤ N
      · rw [if_pos h50] at hput
        have HE := HSAME.out (by rw [hput])
        have HE2 : Hid (∀ u, Below w.heap.size w u → ∃ X', ChD u p R.2 X' ∧ Did w u X X') := HE
        have HR1 : Hid (R.1 = 6) := by show _ = _; rw [hput]
        clear hput HE HSAME hW0 hmv hlo hht hcl hrk hc1 hc2 hc3 hN h hVd hX0 hV hR HCHN hVk
        go_enter Tryz.func138, Tryz.ntmps138
        go_wp2_with (first | (go_at_call 157; refine (CG.out _).mono ?_; rintro e w1 ⟨rfl, hb1⟩; obtain ⟨HB1, r0, r1, r2, r3, r4⟩ := HAT.out w1 hb1; clear hb1) | (go_at_call 158; refine (CF.out _ HB1.out.1).mono ?_; rintro e w2 ⟨rfl, hb2⟩; obtain ⟨HB2, s0, s1, s2, s3, s4⟩ := HAT.out w2 (HB1.out.2.trans (hb2.mono HB1.out.2.size)); have y0 := (HCE.out w2 HB2.out.1).1; clear hb2))
        go_ret
        exact ⟨by rw [HR1.out]; rfl, HE2.out _ HB2.out.1⟩
      · rw [if_neg h50] at hput
        have HR1 : Hid (R.1 = 0) := by show _ = _; rw [hput]
        have HR2 : Hid (R.2 = L.take lo ++ V :: L.drop lo) := by show _ = _; rw [hput]
        have CS : Hid (∀ u, Calls Tryz.prog 131 #[.string X0] u fun e w' => e = .returned (.string X0) ∧ Below u.heap.size u w') := fun u => by
          refine sclone_any X0 u ?_
          rw [hX0, strOfNums_size]
          have := hmv
          unfold mayV at this
          rw [hVd] at this
          have h3 := this.symm
          simp only [Bool.and_eq_true, decide_eq_true_eq] at h3
          have := h3.1.2
          omega
        have HENC : Hid (encC V = [.int .i64 t, .int .u8 n, .string X0, .bool g]) := by show _ = _; rw [hVd, hX0]; rfl
        obtain ⟨G, hG⟩ : ∃ G : Foot, G = fun k => (Value.slice a N c).ownBlock = some k := ⟨_, rfl⟩
        have HGX : Hid (∀ k, G k → X k ∧ k ≠ p ∧ k < w.heap.size) := fun k e => by rw [hG] at e; exact ⟨(hc3 k e).1, (hc3 k e).2, h.lt k (hc3 k e).1⟩
        have HGO : Hid (∀ k, (Value.slice a N c).ownBlock = some k → G k) := fun k e => by rw [hG]; exact e
        have HPW : Hid (p < w.heap.size) := h.lt p h.own
        have HROW : Hid (∀ u, Below w.heap.size w u → u.ownsRow 0 136 4 (.slice a N c) N (L.flatMap encC)) := fun u hb => own_below hc2 hb (Nat.le_refl _)
        have HNL : Hid (L.length = N) := hN.symm
        have HEND : Hid (∀ (W w6 : World) (a' : Option Addr) (c' : Nat), Below w.heap.size w W → Insd W w6 a a' N c c' (L.take lo ++ V :: L.drop lo) → ∃ X', ChD (w6.setCell ⟨p, 0, none⟩ (.slice a' (N + 1) c')) p R.2 X' ∧ Did w (w6.setCell ⟨p, 0, none⟩ (.slice a' (N + 1) c')) X X') := fun W w6 a' c' hb hi => by
          obtain ⟨X', k1, k2⟩ := (HC.out.past hb).turn (v := .slice a N c) (M := R.2) (N' := N + 1) hc3 hi.grown HCHN.out (by rw [HR2.out]; simp only [List.length_append, List.length_take, List.length_cons, List.length_drop, HNL.out]; omega) (by rw [HR2.out]; exact hi.row) hi.blk
          exact ⟨X', k1, (Did.stay hb HC.out.lt).trans k2⟩
        clear hput HSAME hW0 hmv hlo hht hcl hrk hc1 hc2 hc3 hN h hVd hX0 hV hR HCHN hVk hG
        go_enter Tryz.func138, Tryz.ntmps138
        go_wp2_with (first | (go_at_call 157; refine (CG.out _).mono ?_; rintro e w1 ⟨rfl, hb1⟩; obtain ⟨HB1, r0, r1, r2, r3, r4⟩ := HAT.out w1 hb1; clear hb1) | (go_at_call 158; refine (CF.out _ HB1.out.1).mono ?_; rintro e w2 ⟨rfl, hb2⟩; obtain ⟨HB2, s0, s1, s2, s3, s4⟩ := HAT.out w2 (HB1.out.2.trans (hb2.mono HB1.out.2.size)); have y0 := (HCE.out w2 HB2.out.1).1; clear hb2) | (go_at_call 131; refine (CS.out _).mono ?_; rintro e w3 ⟨rfl, hb3⟩; obtain ⟨HB3, u0, u1, u2, u3, u4⟩ := HAT.out w3 (HB2.out.2.trans (hb3.mono HB2.out.2.size)); obtain ⟨U, HU, HUF⟩ := UFact.take HB3.out.1 u0 u1 u2 u3; clear hb3))
        rw [HU.out]
        have HUB : Hid (Below w.heap.size w U) := HUF.out.below
        have hszU : w.heap.size ≤ U.heap.size := HUB.out.size
        have HBX : Hid (∀ u, Chg U u G → u.cell? ⟨w.heap.size, 0, none⟩ = some (.int .i64 t) ∧ u.cell? ⟨w.heap.size, 1, none⟩ = some (.int .u8 n) ∧ u.cell? ⟨w.heap.size, 2, none⟩ = some (.string X0) ∧ u.cell? ⟨w.heap.size, 3, none⟩ = some (.bool g)) := fun u hu => by
          have hk := hu.block w.heap.size (cell_lt HUF.out.c0) (fun e => by have := (HGX.out _ e).2.2; omega)
          exact ⟨(cell_kept hk 0).trans HUF.out.c0, (cell_kept hk 1).trans HUF.out.c1, (cell_kept hk 2).trans HUF.out.c2, (cell_kept hk 3).trans HUF.out.c3⟩
        have HKU : Hid (∀ u, Chg U u G → u.cell? ⟨p, 0, none⟩ = some (.slice a N c) ∧ u.frozen? ⟨p, 0, none⟩ = false) := fun u hu => by
          have hk := hu.block p (Nat.lt_of_lt_of_le HPW.out hszU) (fun e => (HGX.out _ e).2.1 rfl)
          exact ⟨(cell_kept hk 0).trans (HCE.out U HUB.out).1, (frozen_kept hk 0).trans (HCE.out U HUB.out).2⟩
        have HWB : Hid (Below w.heap.size w (U.drew.alloc (.cells #[.int .i64 t, .int .u8 n, .string X0, .bool g] 136))) := HUB.out.drew.alloc hszU _
        have CI : Hid (Calls Tryz.prog 159 #[.slice a N c, .int .i64 lo, .slice (some ⟨U.heap.size, 0, none⟩) 1 1] (U.drew.alloc (.cells #[.int .i64 t, .int .u8 n, .string X0, .bool g] 136)) fun e w' => ∃ a' c', e = .returned (.slice a' (N + 1) c') ∧ Insd (U.drew.alloc (.cells #[.int .i64 t, .int .u8 n, .string X0, .bool g] 136)) w' a a' N c c' (L.take lo ++ V :: L.drop lo)) := by
          refine cins_any a c N lo U.heap.size L V _ HNL.out hlol (by omega) (HROW.out _ HWB.out) ?_ (fun k e => ?_)
          · rw [HENC.out]
            exact heap_alloc_new U.drew _
          · have := (HGX.out k (HGO.out k e)).2.2
            omega
        have q0 := HKU.out U (Chg.refl _ _)
        refine wp_region_noPanic ?_
        refine region_till 11 (fun u => Chg U u G) (by kernel_rfl) ?_ (fun hHeld => ?_)
        · exact (Chg.refl _ _).drew
        refine till_take (i := 0) (v := ?_) 0 (by kernel_rfl) (Or.inl rfl) (by kernel_rfl) rfl (by kernel_rfl) (by kernel_rfl) (by kernel_rfl) (fun _ _ _ h => h) (Or.inl ⟨by rfl, ?_⟩) hHeld ?_
        rotate_left
        · intro u hSu
          (go_simp) <;> (with_reducible rfl)
        change wpTill _ _ _ _ _ _ _ _ (Act.put _ (some 28) _) _
        simp only [Act.put, List.setIfInBounds_toArray, List.set_cons_zero, List.set_cons_succ]
        refine till_take (i := 1) (v := ?_) 1 (by kernel_rfl) (Or.inl rfl) (by kernel_rfl) rfl (by kernel_rfl) (by kernel_rfl) (by kernel_rfl) (fun _ _ _ h => h) (Or.inl ⟨by rfl, ?_⟩) hHeld ?_
        rotate_left
        · intro u hSu
          (go_simp) <;> (with_reducible rfl)
        change wpTill _ _ _ _ _ _ _ _ (Act.put _ (some 29) _) _
        simp only [Act.put, List.setIfInBounds_toArray, List.set_cons_zero, List.set_cons_succ]
        refine till_take (i := 2) (v := ?_) 2 (by kernel_rfl) (Or.inl rfl) (by kernel_rfl) rfl (by kernel_rfl) (by kernel_rfl) (by kernel_rfl) (fun _ _ _ h => h) (Or.inl ⟨by rfl, ?_⟩) hHeld ?_
        rotate_left
        · intro u hSu
          (go_simp) <;> (with_reducible rfl)
        change wpTill _ _ _ _ _ _ _ _ (Act.put _ (some 30) _) _
        simp only [Act.put, List.setIfInBounds_toArray, List.set_cons_zero, List.set_cons_succ]
        refine till_take (i := 3) (v := ?_) 3 (by kernel_rfl) (Or.inl rfl) (by kernel_rfl) rfl (by kernel_rfl) (by kernel_rfl) (by kernel_rfl) (fun _ _ _ h => h) (Or.inl ⟨by rfl, ?_⟩) hHeld ?_
        rotate_left
        · intro u hSu
          (go_simp) <;> (with_reducible rfl)
        change wpTill _ _ _ _ _ _ _ _ (Act.put _ (some 31) _) _
        simp only [Act.put, List.setIfInBounds_toArray, List.set_cons_zero, List.set_cons_succ]
        refine till_take (i := 4) (v := ?_) 4 (by kernel_rfl) (Or.inl rfl) (by kernel_rfl) rfl (by kernel_rfl) (by kernel_rfl) (by kernel_rfl) (fun _ _ _ h => h) (Or.inl ⟨by rfl, ?_⟩) hHeld ?_
        rotate_left
        · intro u hSu
          obtain ⟨z1, z3⟩ := HKU.out u hSu
          (go_simp) <;> (with_reducible rfl)
        change wpTill _ _ _ _ _ _ _ _ (Act.put _ (some 32) _) _
        simp only [Act.put, List.setIfInBounds_toArray, List.set_cons_zero, List.set_cons_succ]
        refine till_take (i := 5) (v := ?_) 5 (by kernel_rfl) (Or.inl rfl) (by kernel_rfl) rfl (by kernel_rfl) (by kernel_rfl) (by kernel_rfl) (fun _ _ _ h => h) (Or.inl ⟨by rfl, ?_⟩) hHeld ?_
        rotate_left
        · intro u hSu
          (go_simp) <;> (with_reducible rfl)
        change wpTill _ _ _ _ _ _ _ _ (Act.put _ (some 33) _) _
        simp only [Act.put, List.setIfInBounds_toArray, List.set_cons_zero, List.set_cons_succ]
        refine till_take (i := 6) (v := ?_) 6 (by kernel_rfl) (Or.inl rfl) (by kernel_rfl) rfl (by kernel_rfl) (by kernel_rfl) (by kernel_rfl) (fun _ _ _ h => h) (Or.inl ⟨by rfl, ?_⟩) hHeld ?_
        rotate_left
        · intro u hSu
          obtain ⟨z0, z1, z2, z3⟩ := HBX.out u hSu
          (go_simp) <;> (with_reducible rfl)
        change wpTill _ _ _ _ _ _ _ _ (Act.put _ (some 34) _) _
        simp only [Act.put, List.setIfInBounds_toArray, List.set_cons_zero, List.set_cons_succ]
        refine till_ready (rs := [7]) (by kernel_rfl) (by simp) ?_
        refine AllTill.cons rfl (fun K hK => ?_) AllTill.nil
        refine step_build_cver rfl (.tmp 34) rfl t n X0 g rfl ?_
        refine hK.out _ _ ?_ (fun hHeld2 => ?_)
        · exact hHeld.alloc _
        clear hK K hHeld
        have hHeld := hHeld2
        clear hHeld2
        change wpTill _ _ _ _ _ _ _ _ (Act.put _ (some 35) _) _
        simp only [Act.put, List.setIfInBounds_toArray, List.set_cons_zero, List.set_cons_succ]
        refine till_ready (rs := [8]) (by kernel_rfl) (by simp) ?_
        refine AllTill.cons rfl (fun K hK => ?_) AllTill.nil
        go_simp
        go_at_call 159
        refine (CI.out).mono ?_
        rintro e w6 ⟨a6, c6, rfl, h6⟩
        have Z6 : Hid (Insd (U.drew.alloc (.cells #[.int .i64 t, .int .u8 n, .string X0, .bool g] 136)) w6 a a6 N c c6 (L.take lo ++ V :: L.drop lo)) := h6; have C6 : Hid (Chg U w6 G) := (Chg.of_below ((Below.refl _ _).drew.alloc (Nat.le_refl _) _) G).trans (Chg.of_grown h6.grown (X := G) (fun k e => HGO.out k e)) (fun _ _ x => x); clear h6
        refine hK.out _ _ ?_ (fun hHeld2 => ?_)
        · exact C6.out
        clear hK K hHeld
        have hHeld := hHeld2
        clear hHeld2
        refine till_take (i := 9) (v := ?_) 10 (by kernel_rfl) (Or.inr (by kernel_rfl)) (by kernel_rfl) rfl (by kernel_rfl) (by kernel_rfl) (by kernel_rfl) (fun _ _ _ h => h) (Or.inl ⟨by rfl, ?_⟩) hHeld ?_
        rotate_left
        · intro u hSu
          (go_simp) <;> (with_reducible rfl)
        change wpTill _ _ _ _ _ _ _ _ (Act.put _ (some 37) _) _
        simp only [Act.put, List.setIfInBounds_toArray, List.set_cons_zero, List.set_cons_succ]
        refine till_take (i := 10) (v := ?_) 10 (by kernel_rfl) (Or.inl rfl) (by kernel_rfl) rfl (by kernel_rfl) (by kernel_rfl) (by kernel_rfl) (fun _ _ _ h => h) (Or.inl ⟨by rfl, ?_⟩) hHeld ?_
        rotate_left
        · intro u hSu
          (go_simp) <;> (with_reducible rfl)
        change wpTill _ _ _ _ _ _ _ _ (Act.put _ (some 38) _) _
        simp only [Act.put, List.setIfInBounds_toArray, List.set_cons_zero, List.set_cons_succ]
        refine till_last (by kernel_rfl) (by kernel_rfl) rfl (fun K hK => ?_)
        (obtain ⟨z1, z3⟩ := HKU.out w6 C6.out); go_simp; refine hK.out _ _ ?_; refine NoPanic.normal ?_; clear hK K hHeld z1 z3
        go_wp2
        go_ret
        exact ⟨by rw [HR1.out]; rfl, HEND.out _ _ _ _ HWB.out Z6.out⟩
end Go.Proofs.YtileidbdmpeciaaGreat
