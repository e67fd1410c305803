/-
  What Put of the landed chains answers and leaves; with ChainC1 to ChainC3: all of package chain.
  The landed stores in memory: a map from keys to chains, each chain with blocks of its own; what stays of a store while one of its chains turns, or a new one comes. No function of the program is named here.
  The landed parts in memory (package part: Part): a store, a table, a map of what is over, each with blocks of its own; what stays while one of them turns. No function of the program is named here.
  Where an entry stands in a landed table (package prep: find, by slices.BinarySearchFunc).
-/
import Derived.Test.YtileidbdmpeciaaGreatAu80
import Derived.Test.YtileidbdmpeciaaGreatAu117
import Derived.Test.YtileidbdmpeciaaGreatShelf
import Derived.Test.YtileidbdmpeciaaGreatAu105
import Derived.Test.YtileidbdmpeciaaGreatAu96
import Derived.Test.YtileidbdmpeciaaGreatAu103
import Derived.Test.YtileidbdmpeciaaGreatRefPrep6
import Derived.Deep.RegionHeld3
namespace Go.Proofs.YtileidbdmpeciaaGreat
open Go.RowKit
set_option linter.unusedVariables false

theorem sclone_any (s : ByteArray) (w : World) (hs : s.size ≤ 281474976710656) :
    Calls Tryz.prog 131 #[.string s] w fun e w' => e = .returned (.string s) ∧ Below w.heap.size w w' := by
  have CC : Hid (Calls Tryz.prog 156 #[.string s] w fun e w' => e = .returned (.string s) ∧ Below w.heap.size w w') := Go.Proofs.Tryz.stringslite_Clone s w hs
  go_enter Tryz.func131, Tryz.ntmps131
  go_wp2_with (go_at_call 156; refine CC.out.mono ?_; rintro e w1 ⟨rfl, hb1⟩; have HB1 : Hid (Below w.heap.size w w1) := hb1; clear hb1)
  go_ret
  exact ⟨rfl, HB1.out⟩
theorem run_build_cver (w : World) (t n : Int) (s : ByteArray) (g : Bool) :
    (Instr.buildSlice 133 1 #[(0, .agg #[.int .i64 t, .int .u8 n, .string s, .bool g])]).run Tryz.prog w = .ok (.slice (some ⟨w.heap.size, 0, none⟩) 1 1) (w.alloc (.cells #[.int .i64 t, .int .u8 n, .string s, .bool g] 136)) := by
  have hf : Instr.fill (fun i => some (i * 4, 4)) (encC zeroV).toArray [(0, .agg #[.int .i64 t, .int .u8 n, .string s, .bool g])] = some #[.int .i64 t, .int .u8 n, .string s, .bool g] := by
    rw [fill_step _ (encC zeroV) 0 0 4 [.int .i64 t, .int .u8 n, .string s, .bool g] rfl rfl (by rw [encC_len]; omega)]
    rfl
  simp [Instr.buildSlice, run_underlying Tryz.underlying133]
  generalize hz : Array.map _ (Array.range 4) = Z
  have hz2 : Z = (encC zeroV).toArray := by rw [← hz]; kernel_rfl
  rw [hz2, hf]
  simp [newRow]
theorem step_build_cver {w : World} {ops : Array Oper} {o : Oper} {a : Act} {K : Act → World → Prop} {Q : Exit → Act → World → Prop} {E : Prop} (hgd : o.guard = none) (x : Operand) (ho : o.op = .buildSlice 133 1 #[(0, x)]) (t n : Int) (s : ByteArray) (g : Bool) (hx : a.eval x = .agg #[.int .i64 t, .int .u8 n, .string s, .bool g])
    (h : K (a.put o.dst (.slice (some ⟨w.heap.size, 0, none⟩) 1 1)) (w.alloc (.cells #[.int .i64 t, .int .u8 n, .string s, .bool g] 136))) : if Region.wanted o (yielded ops a.tmps) = true then Oper.wp Tryz.prog o a w K Q else E := by
  have hw : Region.wanted o (yielded ops a.tmps) = true := by simp [Region.wanted, hgd]
  rw [if_pos hw]
  have hrun := run_build_cver w t n s g
  unfold Oper.wp
  simp [execOp, ho, hx, hrun, Result.andThen]
  exact h
/-- The version's box behind its value's clone. -/
structure UFact (w U : World) (t n : Int) (s : ByteArray) (g : Bool) : Prop where
  below : Below w.heap.size w U
  c0 : U.cell? ⟨w.heap.size, 0, none⟩ = some (.int .i64 t)
  c1 : U.cell? ⟨w.heap.size, 1, none⟩ = some (.int .u8 n)
  c2 : U.cell? ⟨w.heap.size, 2, none⟩ = some (.string s)
  c3 : U.cell? ⟨w.heap.size, 3, none⟩ = some (.bool g)
theorem UFact.made {w w3 : World} {t n : Int} {s : ByteArray} {g : Bool} (hb : Below w.heap.size w w3) (h0 : w3.cell? ⟨w.heap.size, 0, none⟩ = some (.int .i64 t)) (h1 : w3.cell? ⟨w.heap.size, 1, none⟩ = some (.int .u8 n)) (h2 : w3.cell? ⟨w.heap.size, 2, none⟩ = some (.string s)) (h3 : w3.cell? ⟨w.heap.size, 3, none⟩ = some (.bool g)) :
    UFact w (w3.setCell ⟨w.heap.size, 2, none⟩ (.string s)) t n s g :=
  ⟨hb.setCell (Nat.le_refl _) _, (World.cell?_setCell_other _ _ _ _ (by intro e; injection e with _ e2; omega)).trans h0, (World.cell?_setCell_other _ _ _ _ (by intro e; injection e with _ e2; omega)).trans h1, World.cell?_setCell_same _ _ _ h2, (World.cell?_setCell_other _ _ _ _ (by intro e; injection e with _ e2; omega)).trans h3⟩
theorem UFact.take {w w3 : World} {t n : Int} {s : ByteArray} {g : Bool} (hb : Below w.heap.size w w3) (h0 : w3.cell? ⟨w.heap.size, 0, none⟩ = some (.int .i64 t)) (h1 : w3.cell? ⟨w.heap.size, 1, none⟩ = some (.int .u8 n)) (h2 : w3.cell? ⟨w.heap.size, 2, none⟩ = some (.string s)) (h3 : w3.cell? ⟨w.heap.size, 3, none⟩ = some (.bool g)) :
    ∃ U, Hid (w3.setCell ⟨w.heap.size, 2, none⟩ (.string s) = U) ∧ Hid (UFact w U t n s g) := ⟨_, rfl, UFact.made hb h0 h1 h2 h3⟩
set_option maxHeartbeats 4000000 in
set_option maxRecDepth 4000 in
theorem cput_any (p : Nat) (L : List Ver) (X : Foot) (V : Ver) (hV : VerIn V) (w : World) (h : ChD w p L X) :
    Calls Tryz.prog 138 #[.pointer (some ⟨p, 0, none⟩), cvv V] w fun e w' => e = .returned (.int .i64 (putV L V).1) ∧ ∃ X', ChD w' p (putV L V).2 X' ∧ Did w w' X X' := by
  obtain ⟨k0, t, n, v, g⟩ := V
  have hk0 : k0 = zeroK := hV.key
  subst hk0
  obtain ⟨V, hVd⟩ : ∃ V : Ver, V = ⟨zeroK, t, n, v, g⟩ := ⟨_, rfl⟩
  obtain ⟨X0, hX0⟩ : ∃ X0, X0 = strOfNums v := ⟨_, rfl⟩
  have hVk : V.k = zeroK := by rw [hVd]
  rw [← hVd] at hV
  show Calls Tryz.prog 138 #[.pointer (some ⟨p, 0, none⟩), .agg #[.int .i64 t, .int .u8 n, .string (strOfNums v), .bool g]] w fun e w' => e = .returned (.int .i64 (putV L ⟨zeroK, t, n, v, g⟩).1) ∧ ∃ X', ChD w' p (putV L ⟨zeroK, t, n, v, g⟩).2 X' ∧ Did w w' X X'
  rw [← hVd, ← hX0]
  obtain ⟨W0, hW0⟩ : ∃ U, U = w.alloc (.cells #[.int .i64 t, .int .u8 n, .string X0, .bool g] 136) := ⟨_, rfl⟩
  have HB0 : Hid (Below w.heap.size w W0) := by rw [hW0]; exact (Below.refl _ _).alloc (Nat.le_refl _) _
  have HAT : Hid (∀ u, Below W0.heap.size W0 u → Hid (Below w.heap.size w u ∧ Below W0.heap.size W0 u) ∧ u.cell? ⟨w.heap.size, 0, none⟩ = some (.int .i64 t) ∧ u.cell? ⟨w.heap.size, 1, none⟩ = some (.int .u8 n) ∧ u.cell? ⟨w.heap.size, 2, none⟩ = some (.string X0) ∧ u.cell? ⟨w.heap.size, 3, none⟩ = some (.bool g) ∧ u.frozen? ⟨w.heap.size, 2, none⟩ = false) := fun u hb => by
    have hlt : w.heap.size < W0.heap.size := by rw [hW0]; simp
    refine ⟨⟨HB0.out.trans (hb.mono HB0.out.size), hb⟩, (hb.cell (p := ⟨w.heap.size, 0, none⟩) hlt).trans ?_, (hb.cell (p := ⟨w.heap.size, 1, none⟩) hlt).trans ?_, (hb.cell (p := ⟨w.heap.size, 2, none⟩) hlt).trans ?_, (hb.cell (p := ⟨w.heap.size, 3, none⟩) hlt).trans ?_, (hb.frozen (p := ⟨w.heap.size, 2, none⟩) hlt).trans ?_⟩
    · rw [hW0, World.cell?_alloc_new]; rfl
    · rw [hW0, World.cell?_alloc_new]; rfl
    · rw [hW0, World.cell?_alloc_new]; rfl
    · rw [hW0, World.cell?_alloc_new]; rfl
    · rw [hW0]; exact World.frozen?_alloc_new _ _ _ _
  have HC : Hid (ChD w p L X) := h
  have HCHN : Hid (Chn (putV L V).2) := h.chn.put hVk ⟨hV.n.1, hV.n.2, hV.val⟩
  have HSAME : Hid ((putV L V).2 = L → ∀ u, Below w.heap.size w u → ∃ X', ChD u p (putV L V).2 X' ∧ Did w u X X') := fun e u hb => by rw [e]; exact ⟨X, HC.out.past hb, Did.stay hb HC.out.lt⟩
  obtain ⟨mv, hmv⟩ : ∃ mv, mv = mayV V := ⟨_, rfl⟩
  have CG : Hid (∀ u, Calls Tryz.prog 157 #[.agg #[.int .i64 t, .int .u8 n, .string X0, .bool g]] u fun e w' => e = .returned (.bool mv) ∧ Below u.heap.size u w') := fun u => by
    have := cgood_any V hV u
    rw [hmv, hX0]
    rw [hVd] at this ⊢
    exact this
  obtain ⟨lo, hlo⟩ : ∃ k, k = loN L t n := ⟨_, rfl⟩
  obtain ⟨ht, hht⟩ : ∃ b, b = hitN L t n := ⟨_, rfl⟩
  have CF : Hid (∀ u, Below w.heap.size w u → Calls Tryz.prog 158 #[.pointer (some ⟨p, 0, none⟩), .agg #[.int .i64 t, .int .u8 n]] u fun e w' => e = .returned (.tuple #[.int .i64 (lo : Nat), .bool ht]) ∧ Below u.heap.size u w') := fun u hb => by rw [hlo, hht]; exact cfind_any p L X t n u (h.past hb)
  have hput := put_one h.chn.one hVk
  have hcl : clashV L V = ht := by rw [hht, ← hit_clash h.chn.one hVk, hVd]
  have hrk : rk L V = lo := by rw [hlo, ← lo_rk, hVd]
  rw [← hmv, hcl, hrk] at hput
  have hlol : lo ≤ L.length := by rw [hlo]; exact lo_le L t n
  obtain ⟨a, c, hc1, hcr, hc3⟩ := h.list
  have hc2 : w.ownsRow 0 136 4 (.slice a L.length c) L.length (L.flatMap encC) := hcr
  clear hcr
  obtain ⟨N, hN⟩ : ∃ N, N = L.length := ⟨_, rfl⟩
  have hfew : N ≤ 50 := by rw [hN]; exact h.chn.few
  rw [← hN] at hc1 hc2 hc3 hput hlol
  have HCE : Hid (∀ u, Below w.heap.size w u → u.cell? ⟨p, 0, none⟩ = some (.slice a N c) ∧ u.frozen? ⟨p, 0, none⟩ = false) := fun u hb => ⟨(hb.cell (p := ⟨p, 0, none⟩) (h.lt p h.own)).trans hc1, (hb.frozen (p := ⟨p, 0, none⟩) (h.lt p h.own)).trans h.free⟩
  obtain ⟨R, hR⟩ : ∃ R, R = putV L V := ⟨_, rfl⟩
  rw [← hR] at hput HCHN HSAME ⊢
  rw [hW0] at HB0 HAT
  cases mv with
  | false =>
    rw [if_pos rfl] at hput
    have HE := HSAME.out (by rw [hput])
    have HE2 : Hid (∀ u, Below w.heap.size w u → ∃ X', ChD u p R.2 X' ∧ Did w u X X') := HE
    have HR1 : Hid (R.1 = 1) := by show _ = _; rw [hput]
    clear hput HE HSAME hW0 hmv hlo hht hcl hrk hc1 hc2 hc3 hN h hVd hX0 hV hR HCHN hVk
    go_enter Tryz.func138, Tryz.ntmps138
    go_wp2_with (go_at_call 157; refine (CG.out _).mono ?_; rintro e w1 ⟨rfl, hb1⟩; obtain ⟨HB1, r0, r1, r2, r3, r4⟩ := HAT.out w1 hb1; clear hb1)
    go_ret
    exact ⟨by rw [HR1.out]; rfl, HE2.out _ HB1.out.1⟩
  | true =>
    rw [if_neg (by simp)] at hput
    cases ht with
    | true =>
      rw [if_pos rfl] at hput
      have HE := HSAME.out (by rw [hput])
      have HE2 : Hid (∀ u, Below w.heap.size w u → ∃ X', ChD u p R.2 X' ∧ Did w u X X') := HE
      have HR1 : Hid (R.1 = 5) := by show _ = _; rw [hput]
      clear hput HE HSAME hW0 hmv hlo hht hcl hrk hc1 hc2 hc3 hN h hVd hX0 hV hR HCHN hVk
      go_enter Tryz.func138, Tryz.ntmps138
      go_wp2_with (first | (go_at_call 157; refine (CG.out _).mono ?_; rintro e w1 ⟨rfl, hb1⟩; obtain ⟨HB1, r0, r1, r2, r3, r4⟩ := HAT.out w1 hb1; clear hb1) | (go_at_call 158; refine (CF.out _ HB1.out.1).mono ?_; rintro e w2 ⟨rfl, hb2⟩; obtain ⟨HB2, s0, s1, s2, s3, s4⟩ := HAT.out w2 (HB1.out.2.trans (hb2.mono HB1.out.2.size)); have y0 := (HCE.out w2 HB2.out.1).1; clear hb2))
      go_ret
      exact ⟨by rw [HR1.out]; rfl, HE2.out _ HB2.out.1⟩
    | false =>
      rw [if_neg (by simp)] at hput
      by_cases h50 : 50 ≤ N
      · rw [if_pos h50] at hput
        have HE := HSAME.out (by rw [hput])
        have HE2 : Hid (∀ u, Below w.heap.size w u → ∃ X', ChD u p R.2 X' ∧ Did w u X X') := HE
        have HR1 : Hid (R.1 = 6) := by show _ = _; rw [hput]
        clear hput HE HSAME hW0 hmv hlo hht hcl hrk hc1 hc2 hc3 hN h hVd hX0 hV hR HCHN hVk
        go_enter Tryz.func138, Tryz.ntmps138
        go_wp2_with (first | (go_at_call 157; refine (CG.out _).mono ?_; rintro e w1 ⟨rfl, hb1⟩; obtain ⟨HB1, r0, r1, r2, r3, r4⟩ := HAT.out w1 hb1; clear hb1) | (go_at_call 158; refine (CF.out _ HB1.out.1).mono ?_; rintro e w2 ⟨rfl, hb2⟩; obtain ⟨HB2, s0, s1, s2, s3, s4⟩ := HAT.out w2 (HB1.out.2.trans (hb2.mono HB1.out.2.size)); have y0 := (HCE.out w2 HB2.out.1).1; clear hb2))
        go_ret
        exact ⟨by rw [HR1.out]; rfl, HE2.out _ HB2.out.1⟩
      · rw [if_neg h50] at hput
        have HR1 : Hid (R.1 = 0) := by show _ = _; rw [hput]
        have HR2 : Hid (R.2 = L.take lo ++ V :: L.drop lo) := by show _ = _; rw [hput]
        have CS : Hid (∀ u, Calls Tryz.prog 131 #[.string X0] u fun e w' => e = .returned (.string X0) ∧ Below u.heap.size u w') := fun u => by
          refine sclone_any X0 u ?_
          rw [hX0, strOfNums_size]
          have := hmv
          unfold mayV at this
          rw [hVd] at this
          have h3 := this.symm
          simp only [Bool.and_eq_true, decide_eq_true_eq] at h3
          have := h3.1.2
          omega
        have HENC : Hid (encC V = [.int .i64 t, .int .u8 n, .string X0, .bool g]) := by show _ = _; rw [hVd, hX0]; rfl
        obtain ⟨G, hG⟩ : ∃ G : Foot, G = fun k => (Value.slice a N c).ownBlock = some k := ⟨_, rfl⟩
        have HGX : Hid (∀ k, G k → X k ∧ k ≠ p ∧ k < w.heap.size) := fun k e => by rw [hG] at e; exact ⟨(hc3 k e).1, (hc3 k e).2, h.lt k (hc3 k e).1⟩
        have HGO : Hid (∀ k, (Value.slice a N c).ownBlock = some k → G k) := fun k e => by rw [hG]; exact e
        have HPW : Hid (p < w.heap.size) := h.lt p h.own
        have HROW : Hid (∀ u, Below w.heap.size w u → u.ownsRow 0 136 4 (.slice a N c) N (L.flatMap encC)) := fun u hb => own_below hc2 hb (Nat.le_refl _)
        have HNL : Hid (L.length = N) := hN.symm
        have HEND : Hid (∀ (W w6 : World) (a' : Option Addr) (c' : Nat), Below w.heap.size w W → Insd W w6 a a' N c c' (L.take lo ++ V :: L.drop lo) → ∃ X', ChD (w6.setCell ⟨p, 0, none⟩ (.slice a' (N + 1) c')) p R.2 X' ∧ Did w (w6.setCell ⟨p, 0, none⟩ (.slice a' (N + 1) c')) X X') := fun W w6 a' c' hb hi => by
          obtain ⟨X', k1, k2⟩ := (HC.out.past hb).turn (v := .slice a N c) (M := R.2) (N' := N + 1) hc3 hi.grown HCHN.out (by rw [HR2.out]; simp only [List.length_append, List.length_take, List.length_cons, List.length_drop, HNL.out]; omega) (by rw [HR2.out]; exact hi.row) hi.blk
          exact ⟨X', k1, (Did.stay hb HC.out.lt).trans k2⟩
        clear hput HSAME hW0 hmv hlo hht hcl hrk hc1 hc2 hc3 hN h hVd hX0 hV hR HCHN hVk hG
        go_enter Tryz.func138, Tryz.ntmps138
        go_wp2_with (first | (go_at_call 157; refine (CG.out _).mono ?_; rintro e w1 ⟨rfl, hb1⟩; obtain ⟨HB1, r0, r1, r2, r3, r4⟩ := HAT.out w1 hb1; clear hb1) | (go_at_call 158; refine (CF.out _ HB1.out.1).mono ?_; rintro e w2 ⟨rfl, hb2⟩; obtain ⟨HB2, s0, s1, s2, s3, s4⟩ := HAT.out w2 (HB1.out.2.trans (hb2.mono HB1.out.2.size)); have y0 := (HCE.out w2 HB2.out.1).1; clear hb2) | (go_at_call 131; refine (CS.out _).mono ?_; rintro e w3 ⟨rfl, hb3⟩; obtain ⟨HB3, u0, u1, u2, u3, u4⟩ := HAT.out w3 (HB2.out.2.trans (hb3.mono HB2.out.2.size)); obtain ⟨U, HU, HUF⟩ := UFact.take HB3.out.1 u0 u1 u2 u3; clear hb3))
        rw [HU.out]
        have HUB : Hid (Below w.heap.size w U) := HUF.out.below
        have hszU : w.heap.size ≤ U.heap.size := HUB.out.size
        have HBX : Hid (∀ u, Chg U u G → u.cell? ⟨w.heap.size, 0, none⟩ = some (.int .i64 t) ∧ u.cell? ⟨w.heap.size, 1, none⟩ = some (.int .u8 n) ∧ u.cell? ⟨w.heap.size, 2, none⟩ = some (.string X0) ∧ u.cell? ⟨w.heap.size, 3, none⟩ = some (.bool g)) := fun u hu => by
          have hk := hu.block w.heap.size (cell_lt HUF.out.c0) (fun e => by have := (HGX.out _ e).2.2; omega)
          exact ⟨(cell_kept hk 0).trans HUF.out.c0, (cell_kept hk 1).trans HUF.out.c1, (cell_kept hk 2).trans HUF.out.c2, (cell_kept hk 3).trans HUF.out.c3⟩
        have HKU : Hid (∀ u, Chg U u G → u.cell? ⟨p, 0, none⟩ = some (.slice a N c) ∧ u.frozen? ⟨p, 0, none⟩ = false) := fun u hu => by
          have hk := hu.block p (Nat.lt_of_lt_of_le HPW.out hszU) (fun e => (HGX.out _ e).2.1 rfl)
          exact ⟨(cell_kept hk 0).trans (HCE.out U HUB.out).1, (frozen_kept hk 0).trans (HCE.out U HUB.out).2⟩
        have HWB : Hid (Below w.heap.size w (U.drew.alloc (.cells #[.int .i64 t, .int .u8 n, .string X0, .bool g] 136))) := HUB.out.drew.alloc hszU _
        have CI : Hid (Calls Tryz.prog 159 #[.slice a N c, .int .i64 lo, .slice (some ⟨U.heap.size, 0, none⟩) 1 1] (U.drew.alloc (.cells #[.int .i64 t, .int .u8 n, .string X0, .bool g] 136)) fun e w' => ∃ a' c', e = .returned (.slice a' (N + 1) c') ∧ Insd (U.drew.alloc (.cells #[.int .i64 t, .int .u8 n, .string X0, .bool g] 136)) w' a a' N c c' (L.take lo ++ V :: L.drop lo)) := by
          refine cins_any a c N lo U.heap.size L V _ HNL.out hlol (by omega) (HROW.out _ HWB.out) ?_ (fun k e => ?_)
          · rw [HENC.out]
            exact heap_alloc_new U.drew _
          · have := (HGX.out k (HGO.out k e)).2.2
            omega
        have q0 := HKU.out U (Chg.refl _ _)
        refine wp_region_noPanic ?_
        refine region_till 11 (fun u => Chg U u G) (by kernel_rfl) ?_ (fun hHeld => ?_)
        · exact (Chg.refl _ _).drew
        refine till_take (i := 0) (v := ?_) 0 (by kernel_rfl) (Or.inl rfl) (by kernel_rfl) rfl (by kernel_rfl) (by kernel_rfl) (by kernel_rfl) (fun _ _ _ h => h) (Or.inl ⟨by rfl, ?_⟩) hHeld ?_
        rotate_left
        · intro u hSu
          (go_simp) <;> (with_reducible rfl)
        change wpTill _ _ _ _ _ _ _ _ (Act.put _ (some 28) _) _
        simp only [Act.put, List.setIfInBounds_toArray, List.set_cons_zero, List.set_cons_succ]
        refine till_take (i := 1) (v := ?_) 1 (by kernel_rfl) (Or.inl rfl) (by kernel_rfl) rfl (by kernel_rfl) (by kernel_rfl) (by kernel_rfl) (fun _ _ _ h => h) (Or.inl ⟨by rfl, ?_⟩) hHeld ?_
        rotate_left
        · intro u hSu
          (go_simp) <;> (with_reducible rfl)
        change wpTill _ _ _ _ _ _ _ _ (Act.put _ (some 29) _) _
        simp only [Act.put, List.setIfInBounds_toArray, List.set_cons_zero, List.set_cons_succ]
        refine till_take (i := 2) (v := ?_) 2 (by kernel_rfl) (Or.inl rfl) (by kernel_rfl) rfl (by kernel_rfl) (by kernel_rfl) (by kernel_rfl) (fun _ _ _ h => h) (Or.inl ⟨by rfl, ?_⟩) hHeld ?_
        rotate_left
        · intro u hSu
          (go_simp) <;> (with_reducible rfl)
        change wpTill _ _ _ _ _ _ _ _ (Act.put _ (some 30) _) _
        simp only [Act.put, List.setIfInBounds_toArray, List.set_cons_zero, List.set_cons_succ]
        refine till_take (i := 3) (v := ?_) 3 (by kernel_rfl) (Or.inl rfl) (by kernel_rfl) rfl (by kernel_rfl) (by kernel_rfl) (by kernel_rfl) (fun _ _ _ h => h) (Or.inl ⟨by rfl, ?_⟩) hHeld ?_
        rotate_left
        · intro u hSu
          (go_simp) <;> (with_reducible rfl)
        change wpTill _ _ _ _ _ _ _ _ (Act.put _ (some 31) _) _
        simp only [Act.put, List.setIfInBounds_toArray, List.set_cons_zero, List.set_cons_succ]
        refine till_take (i := 4) (v := ?_) 4 (by kernel_rfl) (Or.inl rfl) (by kernel_rfl) rfl (by kernel_rfl) (by kernel_rfl) (by kernel_rfl) (fun _ _ _ h => h) (Or.inl ⟨by rfl, ?_⟩) hHeld ?_
        rotate_left
        · intro u hSu
          obtain ⟨z1, z3⟩ := HKU.out u hSu
          (go_simp) <;> (with_reducible rfl)
        change wpTill _ _ _ _ _ _ _ _ (Act.put _ (some 32) _) _
        simp only [Act.put, List.setIfInBounds_toArray, List.set_cons_zero, List.set_cons_succ]
        refine till_take (i := 5) (v := ?_) 5 (by kernel_rfl) (Or.inl rfl) (by kernel_rfl) rfl (by kernel_rfl) (by kernel_rfl) (by kernel_rfl) (fun _ _ _ h => h) (Or.inl ⟨by rfl, ?_⟩) hHeld ?_
        rotate_left
        · intro u hSu
          (go_simp) <;> (with_reducible rfl)
        change wpTill _ _ _ _ _ _ _ _ (Act.put _ (some 33) _) _
        simp only [Act.put, List.setIfInBounds_toArray, List.set_cons_zero, List.set_cons_succ]
        refine till_take (i := 6) (v := ?_) 6 (by kernel_rfl) (Or.inl rfl) (by kernel_rfl) rfl (by kernel_rfl) (by kernel_rfl) (by kernel_rfl) (fun _ _ _ h => h) (Or.inl ⟨by rfl, ?_⟩) hHeld ?_
        rotate_left
        · intro u hSu
          obtain ⟨z0, z1, z2, z3⟩ := HBX.out u hSu
          (go_simp) <;> (with_reducible rfl)
        change wpTill _ _ _ _ _ _ _ _ (Act.put _ (some 34) _) _
        simp only [Act.put, List.setIfInBounds_toArray, List.set_cons_zero, List.set_cons_succ]
        refine till_ready (rs := [7]) (by kernel_rfl) (by simp) ?_
        refine AllTill.cons rfl (fun K hK => ?_) AllTill.nil
        refine step_build_cver rfl (.tmp 34) rfl t n X0 g rfl ?_
        refine hK.out _ _ ?_ (fun hHeld2 => ?_)
        · exact hHeld.alloc _
        clear hK K hHeld
        have hHeld := hHeld2
        clear hHeld2
        change wpTill _ _ _ _ _ _ _ _ (Act.put _ (some 35) _) _
        simp only [Act.put, List.setIfInBounds_toArray, List.set_cons_zero, List.set_cons_succ]
        refine till_ready (rs := [8]) (by kernel_rfl) (by simp) ?_
        refine AllTill.cons rfl (fun K hK => ?_) AllTill.nil
        go_simp
        go_at_call 159
        refine (CI.out).mono ?_
        rintro e w6 ⟨a6, c6, rfl, h6⟩
        have Z6 : Hid (Insd (U.drew.alloc (.cells #[.int .i64 t, .int .u8 n, .string X0, .bool g] 136)) w6 a a6 N c c6 (L.take lo ++ V :: L.drop lo)) := h6; have C6 : Hid (Chg U w6 G) := (Chg.of_below ((Below.refl _ _).drew.alloc (Nat.le_refl _) _) G).trans (Chg.of_grown h6.grown (X := G) (fun k e => HGO.out k e)) (fun _ _ x => x); clear h6
        refine hK.out _ _ ?_ (fun hHeld2 => ?_)
        · exact C6.out
        clear hK K hHeld
        have hHeld := hHeld2
        clear hHeld2
        refine till_take (i := 9) (v := ?_) 10 (by kernel_rfl) (Or.inr (by kernel_rfl)) (by kernel_rfl) rfl (by kernel_rfl) (by kernel_rfl) (by kernel_rfl) (fun _ _ _ h => h) (Or.inl ⟨by rfl, ?_⟩) hHeld ?_
        rotate_left
        · intro u hSu
          (go_simp) <;> (with_reducible rfl)
        change wpTill _ _ _ _ _ _ _ _ (Act.put _ (some 37) _) _
        simp only [Act.put, List.setIfInBounds_toArray, List.set_cons_zero, List.set_cons_succ]
        refine till_take (i := 10) (v := ?_) 10 (by kernel_rfl) (Or.inl rfl) (by kernel_rfl) rfl (by kernel_rfl) (by kernel_rfl) (by kernel_rfl) (fun _ _ _ h => h) (Or.inl ⟨by rfl, ?_⟩) hHeld ?_
        rotate_left
        · intro u hSu
          (go_simp) <;> (with_reducible rfl)
        change wpTill _ _ _ _ _ _ _ _ (Act.put _ (some 38) _) _
        simp only [Act.put, List.setIfInBounds_toArray, List.set_cons_zero, List.set_cons_succ]
        refine till_last (by kernel_rfl) (by kernel_rfl) rfl (fun K hK => ?_)
        (obtain ⟨z1, z3⟩ := HKU.out w6 C6.out); go_simp; refine hK.out _ _ ?_; refine NoPanic.normal ?_; clear hK K hHeld z1 z3
        go_wp2
        go_ret
        exact ⟨by rw [HR1.out]; rfl, HEND.out _ _ _ _ HWB.out Z6.out⟩
end Go.Proofs.YtileidbdmpeciaaGreat

namespace Go.Proofs.YtileidbdmpeciaaGreat
open Go.RowKit
set_option linter.unusedVariables false

/-- A store in memory: p its block, m its map's, G k the block of the chain at key k, Y k that chain's blocks; C k: what the chain at k holds. -/
structure StI (u : World) (p : Nat) (C : List Int → List Ver) (X : Foot) (m : Nat) (G : List Int → Option Nat) (Y : List Int → Foot) : Prop where
  own : X p
  lt : ∀ k, X k → k < u.heap.size
  xm : X m
  mp : m ≠ p
  c0 : u.cell? ⟨p, 0, none⟩ = some (.map (some m))
  map : KMap u m G
  file : ∀ k g, Ky k → G k = some g → ChD u g (C k) (Y k)
  empty : ∀ k, Ky k → G k = none → C k = []
  foot : ∀ k b, Y k b → X b ∧ b ≠ p ∧ b ≠ m
  apart : ∀ k k' b, Y k b → Y k' b → k = k'
theorem StI.kept {u u' : World} {p m : Nat} {C : List Int → List Ver} {X : Foot} {G : List Int → Option Nat} {Y : List Int → Foot} (h : StI u p C X m G Y) (hs : u.heap.size ≤ u'.heap.size) (hk : ∀ k, X k → u'.heap[k]? = u.heap[k]?) : StI u' p C X m G Y :=
  ⟨h.own, fun k x => Nat.lt_of_lt_of_le (h.lt k x) hs, h.xm, h.mp, (cell_kept (hk p h.own) 0).trans h.c0, h.map.kept (hk m h.xm), fun k g hky hg => (h.file k g hky hg).kept hs (fun b x => hk b (h.foot k b x).1), h.empty, h.foot, h.apart⟩
theorem StI.past {u u' : World} {p m : Nat} {C : List Int → List Ver} {X : Foot} {G : List Int → Option Nat} {Y : List Int → Foot} (h : StI u p C X m G Y) (hb : Below u.heap.size u u') : StI u' p C X m G Y := h.kept hb.size (fun k x => hb.block k (h.lt k x))
theorem StI.congr {u : World} {p m : Nat} {C C' : List Int → List Ver} {X : Foot} {G : List Int → Option Nat} {Y : List Int → Foot} (h : StI u p C X m G Y) (hc : ∀ k, Ky k → C k = C' k) : StI u p C' X m G Y :=
  ⟨h.own, h.lt, h.xm, h.mp, h.c0, h.map, fun k g hky hg => hc k hky ▸ h.file k g hky hg, fun k hky hg => by rw [← hc k hky]; exact h.empty k hky hg, h.foot, h.apart⟩
def updL {α : Type} (F : List Int → α) (k : List Int) (v : α) : List Int → α := fun x => if x = k then v else F x
theorem updL_same {α : Type} (F : List Int → α) (k : List Int) (v : α) : updL F k v k = v := if_pos rfl
theorem updL_other {α : Type} {F : List Int → α} {k x : List Int} {v : α} (h : x ≠ k) : updL F k v x = F x := if_neg h
/-- The chain at a key turns. -/
theorem StI.turn {u u' : World} {p m g : Nat} {C : List Int → List Ver} {X : Foot} {G : List Int → Option Nat} {Y : List Int → Foot} {k : List Int} {M : List Ver} {Y' : Foot} (h : StI u p C X m G Y) (hk : Ky k) (hg : G k = some g) (hf : ChD u' g M Y') (hd : Did u u' (Y k) Y') :
    ∃ X', StI u' p (updL C k M) X' m G (updL Y k Y') ∧ Did u u' X X' ∧ u'.heap[m]? = u.heap[m]? := by
  have hpm : ¬ Y k p ∧ ¬ Y k m := ⟨fun x => (h.foot k p x).2.1 rfl, fun x => (h.foot k m x).2.2 rfl⟩
  have kp := hd.chg.block p (h.lt p h.own) hpm.1
  have km := hd.chg.block m (h.lt m h.xm) hpm.2
  refine ⟨fun b => X b ∨ Y' b, ⟨.inl h.own, ?_, .inl h.xm, h.mp, (cell_kept kp 0).trans h.c0, h.map.kept km, ?_, ?_, ?_, ?_⟩, ⟨hd.chg.mono (fun b _ x => (h.foot k b x).1), ?_⟩, km⟩
  · rintro b (x | x)
    · exact Nat.lt_of_lt_of_le (h.lt b x) hd.chg.size
    · exact hf.lt b x
  · intro k' g' hky hg'
    by_cases e : k' = k
    · subst e
      rw [hg] at hg'
      obtain rfl := Option.some.inj hg'
      rw [updL_same, updL_same]
      exact hf
    · rw [updL_other e, updL_other e]
      exact (h.file k' g' hky hg').kept hd.chg.size (fun b x => hd.chg.block b (h.lt b (h.foot k' b x).1) (fun y => e (h.apart k' k b x y)))
  · intro k' hky hg'
    by_cases e : k' = k
    · subst e; rw [hg] at hg'; cases hg'
    · rw [updL_other e]; exact h.empty k' hky hg'
  · intro k' b x
    by_cases e : k' = k
    · subst e
      rw [updL_same] at x
      refine ⟨.inr x, ?_, ?_⟩
      · rintro rfl
        rcases (hd.new b x).1 with y | y
        · exact hpm.1 y
        · have := h.lt b h.own; omega
      · rintro rfl
        rcases (hd.new b x).1 with y | y
        · exact hpm.2 y
        · have := h.lt b h.xm; omega
    · rw [updL_other e] at x
      exact ⟨.inl (h.foot k' b x).1, (h.foot k' b x).2⟩
  · intro k1 k2 b x1 x2
    have far : ∀ k', k' ≠ k → Y k' b → Y' b → False := fun k' e y y' => by
      rcases (hd.new b y').1 with z | z
      · exact e (h.apart k' k b y z)
      · have := h.lt b (h.foot k' b y).1; omega
    by_cases e1 : k1 = k <;> by_cases e2 : k2 = k
    · rw [e1, e2]
    · subst e1; rw [updL_same] at x1; rw [updL_other e2] at x2; exact (far k2 e2 x2 x1).elim
    · subst e2; rw [updL_same] at x2; rw [updL_other e1] at x1; exact (far k1 e1 x1 x2).elim
    · rw [updL_other e1] at x1; rw [updL_other e2] at x2; exact h.apart k1 k2 b x1 x2
  · rintro b (x | x)
    · exact ⟨.inl x, Nat.lt_of_lt_of_le (h.lt b x) hd.chg.size⟩
    · refine ⟨?_, (hd.new b x).2⟩
      rcases (hd.new b x).1 with y | y
      · exact .inl (h.foot k b y).1
      · exact .inr y
/-- A new chain comes to a key that has none: made in u1, then laid into the map. -/
theorem StI.add {u u1 u2 : World} {p m g : Nat} {C : List Int → List Ver} {X : Foot} {G : List Int → Option Nat} {Y : List Int → Foot} {k : List Int} {Y' : Foot} (h : StI u p C X m G Y) (hk : Ky k) (hb : Below u.heap.size u u1) (hf : ChD u1 g [] Y') (hn : ∀ b, Y' b → u.heap.size ≤ b) (ht : u1.mapTurned u2 m) (hm : KMap u2 m (putK G k (some g))) :
    ∃ X', StI u2 p (updL C k []) X' m (putK G k (some g)) (updL Y k Y') ∧ Did u u2 X X' := by
  have hc := turned_chg ht (X := fun b => b = m) rfl
  have hml : m < u.heap.size := h.lt m h.xm
  have hk2 : ∀ b, b < u1.heap.size → b ≠ m → u2.heap[b]? = u1.heap[b]? := fun b hb hn => hc.block b hb hn
  have hk1 : ∀ b, X b → b ≠ m → u2.heap[b]? = u.heap[b]? := fun b x e => (hk2 b (Nat.lt_of_lt_of_le (h.lt b x) hb.size) e).trans (hb.block b (h.lt b x))
  have hsz : u.heap.size ≤ u2.heap.size := Nat.le_trans hb.size hc.size
  refine ⟨fun b => X b ∨ Y' b, ⟨.inl h.own, ?_, .inl h.xm, h.mp, (cell_kept (hk1 p h.own (Ne.symm h.mp)) 0).trans h.c0, hm, ?_, ?_, ?_, ?_⟩, ⟨?_, ?_⟩⟩
  · rintro b (x | x)
    · exact Nat.lt_of_lt_of_le (h.lt b x) hsz
    · exact Nat.lt_of_lt_of_le (hf.lt b x) hc.size
  · intro k' g' hky hg'
    by_cases e : k' = k
    · subst e
      rw [putK_same] at hg'
      obtain rfl := Option.some.inj hg'
      rw [updL_same, updL_same]
      exact hf.kept hc.size (fun b x => hk2 b (hf.lt b x) (fun e => by have := hn b x; omega))
    · rw [putK_other e] at hg'
      rw [updL_other e, updL_other e]
      exact (h.file k' g' hky hg').kept hsz (fun b x => hk1 b (h.foot k' b x).1 (h.foot k' b x).2.2)
  · intro k' hky hg'
    by_cases e : k' = k
    · subst e; rw [putK_same] at hg'; cases hg'
    · rw [putK_other e] at hg'; rw [updL_other e]; exact h.empty k' hky hg'
  · intro k' b x
    by_cases e : k' = k
    · subst e
      rw [updL_same] at x
      have := hn b x
      have := h.lt p h.own
      exact ⟨.inr x, by omega, by omega⟩
    · rw [updL_other e] at x
      exact ⟨.inl (h.foot k' b x).1, (h.foot k' b x).2⟩
  · intro k1 k2 b x1 x2
    have far : ∀ k', Y k' b → Y' b → False := fun k' y y' => by
      have := hn b y'
      have := h.lt b (h.foot k' b y).1
      omega
    by_cases e1 : k1 = k <;> by_cases e2 : k2 = k
    · rw [e1, e2]
    · subst e1; rw [updL_same] at x1; rw [updL_other e2] at x2; exact (far k2 x2 x1).elim
    · subst e2; rw [updL_same] at x2; rw [updL_other e1] at x1; exact (far k1 x1 x2).elim
    · rw [updL_other e1] at x1; rw [updL_other e2] at x2; exact h.apart k1 k2 b x1 x2
  · exact (Chg.of_below hb X).trans hc (fun b _ e => by rw [e]; exact h.xm)
  · rintro b (x | x)
    · exact ⟨.inl x, Nat.lt_of_lt_of_le (h.lt b x) hsz⟩
    · exact ⟨.inr (hn b x), Nat.lt_of_lt_of_le (hf.lt b x) hc.size⟩
/-- The chain at a key, which is empty, goes. -/
theorem StI.gone {u u2 : World} {p m : Nat} {C : List Int → List Ver} {X : Foot} {G : List Int → Option Nat} {Y : List Int → Foot} {k : List Int} (h : StI u p C X m G Y) (hk : Ky k) (hc0 : C k = []) (ht : u.mapTurned u2 m) (hm : KMap u2 m (putK G k none)) :
    StI u2 p C X m (putK G k none) Y ∧ Did u u2 X X := by
  have hc := turned_chg ht (X := fun b => b = m) rfl
  have hk1 : ∀ b, X b → b ≠ m → u2.heap[b]? = u.heap[b]? := fun b x e => hc.block b (h.lt b x) e
  refine ⟨⟨h.own, fun b x => Nat.lt_of_lt_of_le (h.lt b x) hc.size, h.xm, h.mp, (cell_kept (hk1 p h.own (Ne.symm h.mp)) 0).trans h.c0, hm, fun k' g' hky hg' => ?_, fun k' hky hg' => ?_, h.foot, h.apart⟩, Did.same (hc.mono (fun b _ e => by rw [e]; exact h.xm)) h.lt⟩
  · by_cases e : k' = k
    · subst e; rw [putK_same] at hg'; cases hg'
    · rw [putK_other e] at hg'
      exact (h.file k' g' hky hg').kept hc.size (fun b x => hk1 b (h.foot k' b x).1 (h.foot k' b x).2.2)
  · by_cases e : k' = k
    · subst e; exact hc0
    · rw [putK_other e] at hg'; exact h.empty k' hky hg'
/-- A store in memory, as the one list of its versions; no chain of it is empty. -/
def StD (u : World) (p : Nat) (L : List Ver) (X : Foot) : Prop := StoG L ∧ ∃ m G Y, StI u p (oneV L) X m G Y ∧ ∀ k g, Ky k → G k = some g → oneV L k ≠ []
theorem StD.own {u : World} {p : Nat} {L : List Ver} {X : Foot} (h : StD u p L X) : X p := by obtain ⟨_, m, G, Y, h, _⟩ := h; exact h.own
theorem StD.lt {u : World} {p : Nat} {L : List Ver} {X : Foot} (h : StD u p L X) : ∀ k, X k → k < u.heap.size := by obtain ⟨_, m, G, Y, h, _⟩ := h; exact h.lt
theorem StD.kept {u u' : World} {p : Nat} {L : List Ver} {X : Foot} (h : StD u p L X) (hs : u.heap.size ≤ u'.heap.size) (hk : ∀ k, X k → u'.heap[k]? = u.heap[k]?) : StD u' p L X := by obtain ⟨g, m, G, Y, h, e⟩ := h; exact ⟨g, m, G, Y, h.kept hs hk, e⟩
theorem StD.past {u u' : World} {p : Nat} {L : List Ver} {X : Foot} (h : StD u p L X) (hb : Below u.heap.size u u') : StD u' p L X := h.kept hb.size (fun k x => hb.block k (h.lt k x))
theorem sti_keys {u : World} {p m : Nat} {L : List Ver} {X : Foot} {G : List Int → Option Nat} {Y : List Int → Foot} (hL : OrdK L) (hk : ∀ V ∈ L, Ky V.k) (h : StI u p (oneV L) X m G Y) (he : ∀ k g, Ky k → G k = some g → oneV L k ≠ []) : KeyL G (keysV L) := by
  refine ⟨fun k hk' => ?_, keys_nodup hL, fun k hky => ?_⟩
  · obtain ⟨V, hV, e⟩ := (keys_mem L k).1 hk'
    rw [← e]; exact hk V hV
  · rw [← one_nil hL]
    cases hg : G k with
    | none => simp [h.empty k hky hg]
    | some g => simp [he k g hky hg]
theorem zero_chn (u : World) : (zeroValue 158).run Tryz.prog u = .ok (.pointer none) u := by kernel_rfl
theorem StI.look {u : World} {p m : Nat} {C : List Int → List Ver} {X : Foot} {G : List Int → Option Nat} {Y : List Int → Foot} (h : StI u p C X m G Y) {k : List Int} (hk : Ky k) :
    (Instr.lookup 137 (.map (some m)) (kv k) true).run Tryz.prog u = .ok (.tuple #[ptrV (G k), .bool (G k).isSome]) u := h.map.look Tryz.underlying137 (zero_chn u) k hk
end Go.Proofs.YtileidbdmpeciaaGreat

namespace Go.Proofs.YtileidbdmpeciaaGreat
open Go.RowKit
set_option linter.unusedVariables false

/-- A part's blocks. -/
def ParX (p m : Nat) (XS XT : Foot) : Foot := fun k => k = p ∨ k = m ∨ XS k ∨ XT k
/-- A part in block p: its store in s, its table in t, what is over in map m. -/
structure ParI (u : World) (p s t m : Nat) (P : PSt) (M : List EntM) (XS XT : Foot) : Prop where
  c0 : u.cell? ⟨p, 0, none⟩ = some (.pointer (some ⟨s, 0, none⟩))
  c1 : u.cell? ⟨p, 1, none⟩ = some (.pointer (some ⟨t, 0, none⟩))
  c2 : u.cell? ⟨p, 2, none⟩ = some (.map (some m))
  sto : StD u s P.S XS
  tab : PTab u t M XT
  is : ents M = P.T
  map : OMap u m P.O.length (overP P.O)
  pm : p ≠ m
  ps : ¬ XS p
  pt : ¬ XT p
  ms : ¬ XS m
  mt : ¬ XT m
  st : ∀ k, XS k → XT k → False
  far : ∀ x ∈ M, x.e.l ≠ [] → ∀ b o, x.a = some ⟨b, o, none⟩ → ¬ ParX p m XS XT b
theorem ParI.plt {u : World} {p s t m : Nat} {P : PSt} {M : List EntM} {XS XT : Foot} (h : ParI u p s t m P M XS XT) : p < u.heap.size := cell_lt h.c0
theorem ParI.lt {u : World} {p s t m : Nat} {P : PSt} {M : List EntM} {XS XT : Foot} (h : ParI u p s t m P M XS XT) : ∀ k, ParX p m XS XT k → k < u.heap.size := fun k hk => by
  rcases hk with e | e | e | e
  · rw [e]; exact h.plt
  · rw [e]; exact h.map.lt
  · exact h.sto.lt k e
  · exact h.tab.lt k e
theorem ParI.kept {u u' : World} {p s t m : Nat} {P : PSt} {M : List EntM} {XS XT : Foot} (h : ParI u p s t m P M XS XT) (hs : u.heap.size ≤ u'.heap.size) (hk : ∀ k, ParX p m XS XT k → u'.heap[k]? = u.heap[k]?) (hw : ∀ x ∈ M, x.e.l ≠ [] → ∀ b o, x.a = some ⟨b, o, none⟩ → u'.heap[b]? = u.heap[b]?) : ParI u' p s t m P M XS XT := by
  have hp := hk p (.inl rfl)
  exact ⟨(cell_kept hp 0).trans h.c0, (cell_kept hp 1).trans h.c1, (cell_kept hp 2).trans h.c2, h.sto.kept hs (fun k x => hk k (.inr (.inr (.inl x)))), h.tab.kept hs (fun k x => hk k (.inr (.inr (.inr x)))) hw, h.is, h.map.kept (hk m (.inr (.inl rfl))), h.pm, h.ps, h.pt, h.ms, h.mt, h.st, h.far⟩
theorem ParI.past {u u' : World} {p s t m : Nat} {P : PSt} {M : List EntM} {XS XT : Foot} (h : ParI u p s t m P M XS XT) (hb : Below u.heap.size u u') : ParI u' p s t m P M XS XT :=
  h.kept hb.size (fun k x => hb.block k (h.lt k x)) (fun x hx hl b o e => hb.block b ((h.tab.wrs x hx).wr.blt hl e))
/-- What a call leaves. -/
def ParL (w w' : World) (p s t m : Nat) (M : List EntM) (XS XT : Foot) (P' : PSt) : Prop :=
  ∃ M' XS' XT', ParI w' p s t m P' M' XS' XT' ∧ Did w w' (ParX p m XS XT) (ParX p m XS' XT') ∧ NewW w M M'
theorem newW_refl (w : World) (M : List EntM) : NewW w M M := fun x hx => .inl hx
theorem newW_trans {w u : World} {M M' M'' : List EntM} (h : NewW w M M') (k : NewW u M' M'') (hs : w.heap.size ≤ u.heap.size) : NewW w M M'' := fun x hx => by
  rcases k x hx with e | e
  · exact h x e
  · exact .inr (fun hl b o e2 => Nat.le_trans hs (e hl b o e2))
theorem ParI.stay {w w' : World} {p s t m : Nat} {P : PSt} {M : List EntM} {XS XT : Foot} (h : ParI w p s t m P M XS XT) (hb : Below w.heap.size w w') : ParL w w' p s t m M XS XT P :=
  ⟨M, XS, XT, h.past hb, Did.stay hb h.lt, newW_refl w M⟩
theorem ParL.past {w w' v : World} {p s t m : Nat} {P' : PSt} {M : List EntM} {XS XT : Foot} (h : ParL w w' p s t m M XS XT P') (hb : Below w'.heap.size w' v) : ParL w v p s t m M XS XT P' := by
  obtain ⟨M', XS', XT', h1, h2, h3⟩ := h
  exact ⟨M', XS', XT', h1.past hb, h2.trans (Did.stay hb h1.lt), h3⟩
theorem ParL.since {w w1 w' : World} {p s t m : Nat} {P P' : PSt} {M : List EntM} {XS XT : Foot} (h : ParI w p s t m P M XS XT) (hb : Below w.heap.size w w1) (k : ParL w1 w' p s t m M XS XT P') : ParL w w' p s t m M XS XT P' := by
  obtain ⟨M', XS', XT', h1, h2, h3⟩ := k
  exact ⟨M', XS', XT', h1, (Did.stay hb h.lt).trans h2, newW_trans (newW_refl w M) h3 hb.size⟩
/-- Then one more call. -/
theorem ParL.then {w w1 w' : World} {p s t m : Nat} {P1 P' : PSt} {M : List EntM} {XS XT : Foot} (h : ParL w w1 p s t m M XS XT P1) (k : ∀ M1 XS1 XT1, ParI w1 p s t m P1 M1 XS1 XT1 → ParL w1 w' p s t m M1 XS1 XT1 P') : ParL w w' p s t m M XS XT P' := by
  obtain ⟨M1, XS1, XT1, h1, h2, h3⟩ := h
  obtain ⟨M', XS', XT', k1, k2, k3⟩ := k M1 XS1 XT1 h1
  exact ⟨M', XS', XT', k1, h2.trans k2, newW_trans h3 k3 h2.chg.size⟩
theorem par_did {u u' : World} {p m : Nat} {XS XT XS' XT' : Foot} {Y Y' : Foot} (hX : ∀ k, ParX p m XS XT k → k < u.heap.size) (d : Did u u' Y Y') (h1 : ∀ k, Y k → ParX p m XS XT k) (h2 : ∀ k, ParX p m XS' XT' k → ParX p m XS XT k ∨ Y' k) : Did u u' (ParX p m XS XT) (ParX p m XS' XT') := by
  refine ⟨d.chg.mono (fun k _ e => h1 k e), fun k hk => ?_⟩
  rcases h2 k hk with e | e
  · exact ⟨.inl e, Nat.lt_of_lt_of_le (hX k e) d.chg.size⟩
  · rcases (d.new k e).1 with g | g
    · exact ⟨.inl (h1 k g), (d.new k e).2⟩
    · exact ⟨.inr g, (d.new k e).2⟩
/-- The store turns. -/
theorem ParI.turnS {u u' : World} {p s t m : Nat} {P : PSt} {M : List EntM} {XS XT XS' : Foot} {S' : List Ver} (h : ParI u p s t m P M XS XT) (j1 : StD u' s S' XS') (j2 : Did u u' XS XS') : ParL u u' p s t m M XS XT ⟨S', P.T, P.O⟩ := by
  have hb : ∀ k, k < u.heap.size → ¬ XS k → u'.heap[k]? = u.heap[k]? := fun k hk hn => j2.chg.block k hk hn
  have hp := hb p h.plt h.ps
  have new : ∀ k, k < u.heap.size → ¬ XS k → ¬ XS' k := fun k hk hn hx => by
    rcases (j2.new k hx).1 with e | e
    · exact hn e
    · omega
  have hfar : ∀ x ∈ M, x.e.l ≠ [] → ∀ b o, x.a = some ⟨b, o, none⟩ → b < u.heap.size ∧ ¬ XS b := fun x hx hl b o e => ⟨(h.tab.wrs x hx).wr.blt hl e, fun q => h.far x hx hl b o e (.inr (.inr (.inl q)))⟩
  refine ⟨M, XS', XT, ⟨(cell_kept hp 0).trans h.c0, (cell_kept hp 1).trans h.c1, (cell_kept hp 2).trans h.c2, j1, h.tab.kept j2.chg.size (fun k x => hb k (h.tab.lt k x) (fun y => h.st k y x)) (fun x hx hl b o e => hb b (hfar x hx hl b o e).1 (hfar x hx hl b o e).2), h.is, h.map.kept (hb m h.map.lt h.ms), h.pm, new p h.plt h.ps, h.pt, new m h.map.lt h.ms, h.mt, fun k x y => new k (h.tab.lt k y) (fun z => h.st k z y) x, fun x hx hl b o e q => ?_⟩, par_did h.lt j2 (fun k e => .inr (.inr (.inl e))) (fun k e => ?_), newW_refl u M⟩
  · rcases q with q | q | q | q
    · exact h.far x hx hl b o e (.inl q)
    · exact h.far x hx hl b o e (.inr (.inl q))
    · exact new b (hfar x hx hl b o e).1 (hfar x hx hl b o e).2 q
    · exact h.far x hx hl b o e (.inr (.inr (.inr q)))
  · rcases e with e | e | e | e
    · exact .inl (.inl e)
    · exact .inl (.inr (.inl e))
    · exact .inr e
    · exact .inl (.inr (.inr (.inr e)))
/-- The table turns. -/
theorem ParI.turnT {u u' : World} {p s t m : Nat} {P : PSt} {M M' : List EntM} {XS XT XT' : Foot} (h : ParI u p s t m P M XS XT) (j1 : PTab u' t M' XT') (j2 : Did u u' XT XT') (j3 : NewW u M M') : ParL u u' p s t m M XS XT ⟨P.S, ents M', P.O⟩ := by
  have hb : ∀ k, k < u.heap.size → ¬ XT k → u'.heap[k]? = u.heap[k]? := fun k hk hn => j2.chg.block k hk hn
  have hp := hb p h.plt h.pt
  have new : ∀ k, k < u.heap.size → ¬ XT k → ¬ XT' k := fun k hk hn hx => by
    rcases (j2.new k hx).1 with e | e
    · exact hn e
    · omega
  refine ⟨M', XS, XT', ⟨(cell_kept hp 0).trans h.c0, (cell_kept hp 1).trans h.c1, (cell_kept hp 2).trans h.c2, h.sto.kept j2.chg.size (fun k x => hb k (h.sto.lt k x) (fun y => h.st k x y)), j1, rfl, h.map.kept (hb m h.map.lt h.mt), h.pm, h.ps, new p h.plt h.pt, h.ms, new m h.map.lt h.mt, fun k x y => new k (h.sto.lt k x) (fun z => h.st k x z) y, fun x hx hl b o e q => ?_⟩, par_did h.lt j2 (fun k e => .inr (.inr (.inr e))) (fun k e => ?_), j3⟩
  · rcases q with q | q | q | q
    · rcases j3 x hx with g | g
      · exact h.far x g hl b o e (.inl q)
      · have := g hl b o e; have := h.plt; omega
    · rcases j3 x hx with g | g
      · exact h.far x g hl b o e (.inr (.inl q))
      · have := g hl b o e; have := h.map.lt; omega
    · rcases j3 x hx with g | g
      · exact h.far x g hl b o e (.inr (.inr (.inl q)))
      · have := g hl b o e; have := h.sto.lt b q; omega
    · exact j1.far x hx hl b o e q
  · rcases e with e | e | e | e
    · exact .inl (.inl e)
    · exact .inl (.inr (.inl e))
    · exact .inl (.inr (.inr (.inl e)))
    · exact .inr e
/-- One more is over. -/
theorem ParI.turnO {u u' : World} {p s t m : Nat} {P : PSt} {M : List EntM} {XS XT : Foot} {O' : List (Int × Int)} (h : ParI u p s t m P M XS XT) (ht : u.mapTurned u' m) (hm : OMap u' m O'.length (overP O')) : ParL u u' p s t m M XS XT ⟨P.S, P.T, O'⟩ := by
  have hc := turned_chg ht (X := fun b => b = m) rfl
  have hb : ∀ k, k < u.heap.size → k ≠ m → u'.heap[k]? = u.heap[k]? := fun k hk hn => hc.block k hk hn
  have hp := hb p h.plt h.pm
  refine ⟨M, XS, XT, ⟨(cell_kept hp 0).trans h.c0, (cell_kept hp 1).trans h.c1, (cell_kept hp 2).trans h.c2, h.sto.kept hc.size (fun k x => hb k (h.sto.lt k x) (fun e => h.ms (e ▸ x))), h.tab.kept hc.size (fun k x => hb k (h.tab.lt k x) (fun e => h.mt (e ▸ x))) (fun x hx hl b o e => hb b ((h.tab.wrs x hx).wr.blt hl e) (fun e2 => h.far x hx hl b o e (.inr (.inl e2)))), h.is, hm, h.pm, h.ps, h.pt, h.ms, h.mt, h.st, h.far⟩, ⟨hc.mono (fun k _ e => .inr (.inl e)), fun k hk => ⟨.inl hk, Nat.lt_of_lt_of_le (h.lt k hk) hc.size⟩⟩, newW_refl u M⟩
theorem over_put {O : List (Int × Int)} {id h : Int} (hn : overP O id = none) : ∀ x, putI2 (overP O) id (some h) x = overP (O ++ [(id, h)]) x := fun x => by
  rw [over_app]
  unfold putI2
  by_cases e : x = id
  · subst e
    rw [if_pos rfl, hn]
    simp
  · rw [if_neg e]
    cases hx : overP O x with
    | some y => rfl
    | none =>
      simp only
      rw [if_neg (fun e2 => e e2.symm)]
theorem over_same {O : List (Int × Int)} {id h : Int} (hn : overP O id = some h) : ∀ x, putI2 (overP O) id (some h) x = overP O x := fun x => by
  unfold putI2
  by_cases e : x = id
  · subst e; rw [if_pos rfl, hn]
  · rw [if_neg e]
end Go.Proofs.YtileidbdmpeciaaGreat

namespace Go.Proofs.YtileidbdmpeciaaGreat
open Go.RowKit
set_option linter.unusedVariables false

/-- Two numbers held against each other. -/
def cmpI (a b : Int) : Int := if a < b then -1 else if b < a then 1 else 0
theorem cmpI_neg {a b : Int} : cmpI a b < 0 ↔ a < b := by unfold cmpI; split <;> (try split) <;> omega
theorem cmpI_zero {a b : Int} : cmpI a b = 0 ↔ a = b := by unfold cmpI; split <;> (try split) <;> omega
set_option maxHeartbeats 2000000 in
theorem pclos_any (x : EntM) (id : Int) (w : World) :
    Calls Tryz.prog 127 #[ev x, .int .i64 id] w fun e w' => e = .returned (.int .i64 (cmpI x.e.id id)) ∧ Below w.heap.size w w' := by
  obtain ⟨i1, s1, m1, t1, n1, L1, h⟩ : ∃ i1 s1 m1 t1 n1 L1, i1 = x.e.id ∧ s1 = x.e.s ∧ m1 = x.e.m ∧ t1 = x.e.t ∧ n1 = x.e.n ∧ L1 = x.e.l.length := ⟨_, _, _, _, _, _, rfl, rfl, rfl, rfl, rfl, rfl⟩
  obtain ⟨e1, e2, e3, e4, e5, e6⟩ := h
  show Calls Tryz.prog 127 #[.agg #[.int .i64 x.e.id, .int .i64 x.e.s, .int .u8 x.e.m, .int .i64 x.e.t, .int .u8 x.e.n, .slice x.a x.e.l.length x.c], .int .i64 id] w fun e w' => e = .returned (.int .i64 (cmpI x.e.id id)) ∧ Below w.heap.size w w'
  rw [← e1, ← e2, ← e3, ← e4, ← e5, ← e6]
  clear e1 e2 e3 e4 e5 e6
  generalize x.a = xa
  generalize x.c = xc
  have HB : Hid (Below w.heap.size w (w.alloc (.cells #[.int .i64 i1, .int .i64 s1, .int .u8 m1, .int .i64 t1, .int .u8 n1, .slice xa L1 xc] 31))) := (Below.refl _ _).alloc (Nat.le_refl _) _
  by_cases h1 : i1 < id
  · have b1 : decide (i1 < id) = true := decide_eq_true h1
    have HR : Hid (cmpI i1 id = -1) := by show _ = _; unfold cmpI; rw [if_pos h1]
    clear h1
    go_enter Tryz.func127, Tryz.ntmps127
    go_wp2
    go_ret
    exact ⟨by rw [HR.out]; rfl, HB.out⟩
  · have b1 : decide (i1 < id) = false := decide_eq_false h1
    by_cases h2 : id < i1
    · have b2 : decide (id < i1) = true := decide_eq_true h2
      have HR : Hid (cmpI i1 id = 1) := by show _ = _; unfold cmpI; rw [if_neg h1, if_pos h2]
      clear h1 h2
      go_enter Tryz.func127, Tryz.ntmps127
      go_wp2
      go_ret
      exact ⟨by rw [HR.out]; rfl, HB.out⟩
    · have b2 : decide (id < i1) = false := decide_eq_false h2
      have HR : Hid (cmpI i1 id = 0) := by show _ = _; unfold cmpI; rw [if_neg h1, if_neg h2]
      clear h1 h2
      go_enter Tryz.func127, Tryz.ntmps127
      go_wp2
      go_ret
      exact ⟨by rw [HR.out]; rfl, HB.out⟩
theorem ents_up {M : List EntM} (h : TabK (ents M)) {i j : Nat} {x y : EntM} (hij : i < j) (hx : M[i]? = some x) (hy : M[j]? = some y) : x.e.id < y.e.id := by
  have hu := h.up
  obtain ⟨hi, rfl⟩ := List.getElem?_eq_some_iff.1 hx
  obtain ⟨hj, rfl⟩ := List.getElem?_eq_some_iff.1 hy
  have := List.pairwise_iff_getElem.1 hu i j (by rw [List.length_map]; exact hi) (by rw [List.length_map]; exact hj) hij
  simpa using this
/-- One of a number is there, just if the one at its place has it. -/
theorem has_place {M : List EntM} (h : TabK (ents M)) (id : Int) {J : Nat} (hJ : placeT (ents M) id = J) : (∀ x, M[J]? = some x → x.e.id = id → hasM M id = some x) ∧ ((∀ x, M[J]? = some x → x.e.id ≠ id) → hasM M id = none) := by
  refine ⟨fun x hx he => find_first hx (decide_eq_true he) (fun j y hj hy => decide_eq_false (fun e => ?_)), fun hn => find_no (fun j y hj hy => decide_eq_false (fun e => ?_))⟩
  · have := ents_up h hj hy hx
    omega
  · rcases Nat.lt_trichotomy j J with h1 | h1 | h1
    · have := place_lt (L := ents M) (id := id) (i := j) (e := y.e) (by omega) (by rw [List.getElem?_map, hy]; rfl)
      omega
    · subst h1; exact hn y hy e
    · have hl : J < M.length := by omega
      have hge := place_ge h.up (id := id) (i := J) (e := (M[J]).e) (by omega) (by rw [List.getElem?_map, List.getElem?_eq_getElem hl]; rfl)
      have := ents_up h h1 (List.getElem?_eq_getElem hl) hy
      omega
set_option maxHeartbeats 4000000 in
set_option maxRecDepth 4000 in
theorem psearch_any (a : Option Addr) (c N : Nat) (M : List EntM) (id : Int) (w : World) (hN : M.length = N) (hu : TabK (ents M)) (hfew : N ≤ 1000) (hrow : PRow w (.slice a M.length c) M) :
    Calls Tryz.prog 126 #[.slice a N c, .int .i64 id, .func (.func 127) #[] #[]] w fun e w' => e = .returned (.tuple #[.int .i64 (placeT (ents M) id : Nat), .bool (hasM M id).isSome]) ∧ Below w.heap.size w w' := by
  have HROW : Hid (∀ u, Below w.heap.size w u → PRow u (.slice a M.length c) M) := fun u hb => own_below hrow hb (Nat.le_refl _)
  have HNL : Hid (M.length = N) := hN
  have HU : Hid (TabK (ents M)) := hu
  obtain ⟨lo, hlo1⟩ : ∃ k, k = placeT (ents M) id := ⟨_, rfl⟩
  obtain ⟨ht, hht⟩ : ∃ b, b = (hasM M id).isSome := ⟨_, rfl⟩
  have HLO : Hid (lo = placeT (ents M) id) := hlo1
  have HHT : Hid (ht = (hasM M id).isSome) := hht
  rw [← hlo1, ← hht]
  have CL : Hid (∀ x : EntM, ∀ u, Calls Tryz.prog 127 #[ev x, .int .i64 id] u fun e w' => e = .returned (.int .i64 (cmpI x.e.id id)) ∧ Below u.heap.size u w') := fun x u => pclos_any x id u
  clear hlo1 hht hN hu hrow
  go_enter Tryz.func126, Tryz.ntmps126
  go_wp2
  go_loopw [9, 10] (fun iv jv wr => ∃ i j : Nat, iv = .int .i64 i ∧ jv = .int .i64 j ∧ i ≤ j ∧ j ≤ N ∧ Hid (Below w.heap.size w wr) ∧ Hid ((∀ k (x : EntM), k < i → M[k]? = some x → x.e.id < id) ∧ (∀ k (x : EntM), j ≤ k → M[k]? = some x → id ≤ x.e.id))) (fun iv jv _ => (intOf jv - intOf iv).toNat)
  case atStart => exact ⟨0, N, rfl, rfl, Nat.zero_le _, Nat.le_refl _, Below.refl _ _, fun k x h => absurd h (Nat.not_lt_zero _), fun k x h1 h2 => by have := (List.getElem?_eq_some_iff.1 h2).1; rw [HNL.out] at this; omega⟩
  case round =>
    obtain ⟨i, j, rfl, rfl, hij, hjN, HW, HI⟩ := hrel
    by_cases hlt : i < j
    · obtain ⟨h, hh⟩ : ∃ h : Nat, h = (i + j) / 2 := ⟨_, rfl⟩
      have hhi : ((i : Int) + (j : Int)) / 2 = (h : Int) := by omega
      have h1 : i ≤ h := by omega
      have h2 : h < j := by omega
      have hhN : h < N := by omega
      clear hh
      obtain ⟨x1, hx1⟩ : ∃ x, M[h]? = some x := ⟨_, List.getElem?_eq_getElem (by rw [HNL.out]; exact hhN)⟩
      have HX : Hid (M[h]? = some x1) := hx1
      obtain ⟨g, hag, _, hat⟩ := (HROW.out wr HW.out).ent hx1
      subst hag
      have FE : Hid (EntAt wr g (h * 6) x1) := hat
      obtain ⟨c1, hc1⟩ : ∃ c, c = cmpI x1.e.id id := ⟨_, rfl⟩
      have HC1 : Hid (c1 = cmpI x1.e.id id) := hc1
      have CL1 : Hid (∀ u, Calls Tryz.prog 127 #[ev x1, .int .i64 id] u fun e w' => e = .returned (.int .i64 c1) ∧ Below u.heap.size u w') := fun u => by rw [hc1]; exact CL.out x1 u
      clear hx1 hc1 hat
      by_cases hc : c1 < 0
      · have bc : decide (c1 < 0) = true := decide_eq_true hc
        go_wp2_with (first | ((with_reducible show wpList _ _ _ (Oper.mk (some 28) _ _ _ _ _ :: _) _ _); refine wpList_load_pent 28 (by rfl) (by rfl) _ (by rfl) g (h * 6) (by rfl) x1 FE.out ?_) | (go_at_call 127; refine (CL1.out _).mono ?_; rintro e w1 ⟨rfl, hb1⟩; have B1 : Hid (Below w.heap.size w w1) := HW.out.trans (hb1.mono HW.out.size); clear hb1))
        go_roundw
        case rel =>
          refine ⟨h + 1, j, by go_num, rfl, by omega, hjN, B1, fun k x hk hx => ?_, HI.out.2⟩
          have h4 := cmpI_neg.1 (by rw [← HC1.out]; exact hc)
          by_cases e : k = h
          · subst e
            rw [HX.out] at hx
            injection hx with hx
            rw [← hx]; exact h4
          · have h3 := ents_up HU.out (by omega) hx HX.out
            omega
        case measure => simp [intOf]; omega
      · have bc : decide (c1 < 0) = false := decide_eq_false hc
        go_wp2_with (first | ((with_reducible show wpList _ _ _ (Oper.mk (some 28) _ _ _ _ _ :: _) _ _); refine wpList_load_pent 28 (by rfl) (by rfl) _ (by rfl) g (h * 6) (by rfl) x1 FE.out ?_) | (go_at_call 127; refine (CL1.out _).mono ?_; rintro e w1 ⟨rfl, hb1⟩; have B1 : Hid (Below w.heap.size w w1) := HW.out.trans (hb1.mono HW.out.size); clear hb1))
        go_roundw
        case rel =>
          have h4 : ¬ x1.e.id < id := fun e => by
            have h5 : c1 < 0 := by rw [HC1.out]; exact cmpI_neg.2 e
            omega
          refine ⟨i, h, rfl, rfl, h1, by omega, B1, HI.out.1, fun k x hk hx => ?_⟩
          by_cases e : k = h
          · subst e
            rw [HX.out] at hx
            injection hx with hx
            rw [← hx]; omega
          · have h3 := ents_up HU.out (by omega) HX.out hx
            omega
        case measure => simp [intOf]; omega
    · obtain rfl : j = i := by omega
      have elo : lo = j := by
        rw [HLO.out]
        refine place_is (by rw [List.length_map, HNL.out]; exact hjN) (fun k e hk he => ?_) ?_
        · rw [List.getElem?_map] at he
          cases hx : M[k]? with
          | none => rw [hx] at he; cases he
          | some x => rw [hx] at he; injection he with he; rw [← he]; exact HI.out.1 k x hk hx
        · by_cases hN : j = (ents M).length
          · exact .inl hN
          · have hlt2 : j < M.length := by rw [List.length_map] at hN; rw [HNL.out] at hN ⊢; omega
            refine .inr ⟨(M[j]).e, by rw [List.getElem?_map, List.getElem?_eq_getElem hlt2]; rfl, ?_⟩
            have := HI.out.2 j _ (Nat.le_refl _) (List.getElem?_eq_getElem hlt2)
            omega
      subst elo
      obtain ⟨hp1, hp2⟩ := has_place HU.out id HLO.out.symm
      by_cases hN : lo < N
      · obtain ⟨x1, hx1⟩ : ∃ x, M[lo]? = some x := ⟨_, List.getElem?_eq_getElem (by rw [HNL.out]; exact hN)⟩
        obtain ⟨g, hag, _, hat⟩ := (HROW.out wr HW.out).ent hx1
        subst hag
        have FE : Hid (EntAt wr g (lo * 6) x1) := hat
        obtain ⟨c1, hc1⟩ : ∃ c, c = cmpI x1.e.id id := ⟨_, rfl⟩
        have CL1 : Hid (∀ u, Calls Tryz.prog 127 #[ev x1, .int .i64 id] u fun e w' => e = .returned (.int .i64 c1) ∧ Below u.heap.size u w') := fun u => by rw [hc1]; exact CL.out x1 u
        have HB2 : Hid (ht = (c1 == 0)) := by
          show ht = _
          by_cases e : x1.e.id = id
          · rw [HHT.out, hp1 x1 hx1 e, hc1, cmpI_zero.2 e]; rfl
          · have e0 : ¬ c1 = 0 := fun e2 => e (cmpI_zero.1 (hc1.symm.trans e2))
            rw [HHT.out, hp2 (fun x hx => by rw [hx1] at hx; injection hx with hx; rw [← hx]; exact e)]
            simpa using e0
        have b1 : decide (lo < N) = true := decide_eq_true hN
        clear hx1 hc1 hat hp1 hp2
        go_wp2_with (first | ((with_reducible show wpList _ _ _ (Oper.mk (some 44) _ _ _ _ _ :: _) _ _); refine wpList_load_pent 44 (by rfl) (by rfl) _ (by rfl) g (lo * 6) (by rfl) x1 FE.out ?_) | (go_at_call 127; refine (CL1.out _).mono ?_; rintro e w1 ⟨rfl, hb1⟩; have B1 : Hid (Below w.heap.size w w1) := HW.out.trans (hb1.mono HW.out.size); clear hb1))
        go_ret2
        rw [HB2.out]
        exact ⟨rfl, B1.out⟩
      · have b1 : decide (lo < N) = false := decide_eq_false hN
        have HH1 : Hid (ht = false) := by
          show ht = false
          rw [HHT.out, hp2 (fun x hx => absurd (List.getElem?_eq_some_iff.1 hx).1 (by rw [HNL.out]; exact hN))]
          rfl
        clear hp1 hp2
        go_wp2
        go_ret2
        rw [HH1.out]
        exact ⟨rfl, HW.out⟩
theorem pfind_any (p : Nat) (M : List EntM) (X : Foot) (id : Int) (w : World) (h : PTab w p M X) :
    Calls Tryz.prog 89 #[.pointer (some ⟨p, 0, none⟩), .int .i64 id] w fun e w' => e = .returned (.tuple #[.int .i64 (placeT (ents M) id : Nat), .bool (hasM M id).isSome]) ∧ Below w.heap.size w w' := by
  obtain ⟨a, c, hc1, hc2, hc3, hcell, _, _⟩ := h.open
  obtain ⟨N, hN⟩ : ∃ N, N = M.length := ⟨_, rfl⟩
  have q0 : w.cell? ⟨p, 0, none⟩ = some (.slice a N c) := by rw [hN]; exact (hcell w (Below.refl _ _)).1
  obtain ⟨lo, hlo⟩ : ∃ k, k = placeT (ents M) id := ⟨_, rfl⟩
  obtain ⟨ht, hht⟩ : ∃ b, b = (hasM M id).isSome := ⟨_, rfl⟩
  have CS : Hid (Calls Tryz.prog 126 #[.slice a N c, .int .i64 id, .func (.func 127) #[] #[]] w fun e w' => e = .returned (.tuple #[.int .i64 (lo : Nat), .bool ht]) ∧ Below w.heap.size w w') := by
    rw [hlo, hht]
    exact psearch_any a c N M id w hN.symm h.tab (by rw [hN]; exact Nat.le_trans h.few (by decide)) (hcell w (Below.refl _ _)).2
  rw [← hlo, ← hht]
  clear hlo hht hN hcell h
  go_enter Tryz.func89, Tryz.ntmps89
  go_wp2_with (go_at_call 126; refine CS.out.mono ?_; rintro e w1 ⟨rfl, hb1⟩; have B1 : Hid (Below w.heap.size w w1) := hb1; clear hb1)
  go_ret2
  exact ⟨rfl, B1.out⟩
end Go.Proofs.YtileidbdmpeciaaGreat

