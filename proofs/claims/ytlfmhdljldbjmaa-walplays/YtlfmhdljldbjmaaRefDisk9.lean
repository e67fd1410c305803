/-
  What the document's own disks (hourglassref8: Crash of a Disk) leave: the walk.
-/
import Derived.Test.YtlfmhdljldbjmaaRefDisk8
import Derived.Deep.RegionHeld3
import Derived.Deep.DeepCutAuto
namespace Go.Proofs.Ytlfmhdljldbjmaa
open Go.RowKit
set_option linter.unusedVariables false

theorem crash_size (k : Nat) (t : Int) (f : FileV) (h : f.safe ≤ f.b.length) : (crashF k t f).b.length ≤ f.b.length := by
  unfold crashF
  simp only
  split
  · rename_i h'; simp; omega
  · simp; omega
theorem mix_size (k : Nat) (t : Int) (fs : List FileV) (h : ∀ f ∈ fs, f.safe ≤ f.b.length) : ∀ i, sizeN (mixN k t fs i) ≤ sizeN fs := by
  induction fs with
  | nil => intro i; simp [mixN, sizeN]
  | cons f r ih =>
    intro i
    have h1 := crash_size k t f (h f (by simp))
    cases i with
    | zero => simp [mixN]
    | succ i =>
      have h2 := ih (fun x hx => h x (by simp [hx])) i
      simp only [mixN, List.take_succ_cons, List.map_cons, List.drop_succ_cons, List.cons_append, sizeN] at h2 ⊢
      omega
set_option maxHeartbeats 4000000 in
set_option maxRecDepth 8000 in
theorem rcrash_any (b : Nat) (S : DS) (X : Foot) (keep torn : Int) (w : World) (h : DiskR w b S X) (hz : sizeN S.fs ≤ 1099511627776) (hk0 : -9223372036854775808 ≤ keep) (hk1 : keep ≤ 9223372036854775807) (ht : 0 ≤ torn ∧ torn ≤ 255) :
    Calls Try.prog 24 #[.pointer (some ⟨b, 0, none⟩), .int .i64 keep, .int .u8 torn] w fun e w' => e = .returned (.tuple #[]) ∧ ∃ X', DiskR w' b (S.crash keep torn) X' ∧ Did w w' X X' := by
  obtain ⟨K, hK⟩ : ∃ K, K = keep.toNat := ⟨_, rfl⟩
  have c2 := h.c2
  have f2 := h.free 2
  have HD : Hid (DiskR w b S X) := h
  obtain ⟨V, hV⟩ : ∃ V, V = w.setCell ⟨b, 2, none⟩ (.bool true) := ⟨_, rfl⟩
  have HV : Hid (DiskR V b { S with off := true } X ∧ Did w V X X) := by rw [hV]; exact ⟨h.nowoff true, Did.same (Chg.set w ⟨b, 2, none⟩ _ h.own) h.lt⟩
  have hfew := h.few
  obtain ⟨N, hN⟩ : ∃ N, N = S.fs.length := ⟨_, rfl⟩
  have HN : Hid (N = S.fs.length) := hN
  rw [← hN] at hfew
  have HSZ : Hid (∀ i, sizeN (mixN K torn S.fs i) ≤ 1099511627776) := fun i => Nat.le_trans (mix_size K torn S.fs h.good.safe i) hz
  have HCR : Hid (S.crash keep torn = { S with off := true, fs := mixN K torn S.fs N }) := by show _ = _; rw [hN, mix_all, hK]; rfl
  obtain ⟨S', hS'⟩ : ∃ S', S' = S.crash keep torn := ⟨_, rfl⟩
  rw [← hS'] at HCR ⊢
  have hKb : (K : Int) ≤ 9223372036854775807 := by omega
  have HVE : Hid (V = w.setCell ⟨b, 2, none⟩ (.bool true)) := hV
  clear h hN hS' hV
  have HKI : Hid (keep < 0 ∧ (K : Int) = 0 ∨ ¬ keep < 0 ∧ (K : Int) = keep) := by show _ ∨ _; omega
  clear hK
  go_enter Try.func24, Try.ntmps24
  go_upto_if 15 with fail
  rw [← HVE.out]
  clear HVE
  go_cut [1] (fun kv wr => kv = .int .i64 ((K : Nat) : Int) ∧ wr = V)
  case first =>
    rcases HKI.out with ⟨h1, h2⟩ | ⟨h1, h2⟩
    · have b1 : decide (keep < 0) = true := decide_eq_true h1
      have HK2 : Hid ((K : Int) = 0) := h2
      clear h2
      go_wp2_with fail
      go_meet
      case rel => exact ⟨by rw [HK2.out], rfl⟩
    · have b1 : decide (keep < 0) = false := decide_eq_false h1
      have HK2 : Hid ((K : Int) = keep) := h2
      clear h2
      go_wp2_with fail
      go_meet
      case rel => exact ⟨by rw [HK2.out], rfl⟩
  case rest =>
    obtain ⟨rfl, rfl⟩ := hcut
    go_wp2
    go_loopw [6] (fun iv wr => ∃ i : Nat, iv = .int .i64 i ∧ i ≤ N ∧ Hid (∃ X1, DiskR wr b { S with off := true, fs := mixN K torn S.fs i } X1 ∧ Did w wr X X1)) (fun iv _ => N - (intOf iv).toNat)
    case atStart => exact ⟨0, rfl, Nat.zero_le _, X, by rw [mix_zero]; exact HV.out.1, HV.out.2⟩
    case round =>
      obtain ⟨i, rfl, hi, HR⟩ := hrel
      obtain ⟨X1, HR1⟩ : ∃ X1, Hid (DiskR wr b { S with off := true, fs := mixN K torn S.fs i } X1 ∧ Did w wr X X1) := HR.out
      have HML : Hid ((mixN K torn S.fs i).length = N) := by show _ = _; rw [mix_len _ _ _ _ (by rw [← HN.out]; exact hi), HN.out]
      by_cases hlt : i < N
      · have hil : i < S.fs.length := by rw [← HN.out]; exact hlt
        obtain ⟨f, hif0⟩ : ∃ f, S.fs[i]? = some f := ⟨_, List.getElem?_eq_getElem hil⟩
        have HIF : Hid ((mixN K torn S.fs i)[i]? = some f) := mix_at _ _ _ _ _ hif0
        have HNX : Hid (mixN K torn S.fs (i + 1) = setF (mixN K torn S.fs i) i (crashF K torn f)) := mix_next _ _ _ _ _ hif0
        clear hif0
        rcases HR1.out.1.list with ⟨_, h2⟩ | ⟨g, cap, c1, hcap, hXg, hgb, hfree, hall⟩
        · have := HIF.out; rw [show mixN K torn S.fs i = [] from h2] at this; simp at this
        have hr := hall i f HIF.out
        obtain ⟨aa, c, k1, kb⟩ := hr.c1
        have k0 := hr.c2
        have hsf := HR1.out.1.good.safe f (List.mem_of_getElem? HIF.out)
        have hMz : f.b.length ≤ 1099511627776 := Nat.le_trans (size_at HIF.out) (HSZ.out i)
        have hgl : g < wr.heap.size := HR1.out.1.lt g hXg
        obtain ⟨M, hM⟩ : ∃ M, M = f.b.length := ⟨_, rfl⟩
        have HM : Hid (M = f.b.length) := hM
        obtain ⟨sf, hsfe⟩ : ∃ sf, sf = f.safe := ⟨_, rfl⟩
        have HSF : Hid (sf = f.safe) := hsfe
        have k2 := kb.le
        rw [← hM] at k1 k2 hsf hMz
        rw [← hsfe] at k0 hsf
        rw [show ({ S with off := true, fs := mixN K torn S.fs i } : DS).fs.length = N from HML.out] at c1 hcap
        have HKU : Hid (∀ u, Below wr.heap.size wr u → u.cell? ⟨g, i * 3 + 1, none⟩ = some (.slice aa M c) ∧ u.cell? ⟨g, i * 3 + 2, none⟩ = some (.int .i64 (sf : Int)) ∧ u.frozen? ⟨g, i * 3 + 1, none⟩ = false ∧ u.frozen? ⟨g, i * 3 + 2, none⟩ = false) := fun u hb => ⟨(hb.cell (p := ⟨g, i * 3 + 1, none⟩) hgl).trans k1, (hb.cell (p := ⟨g, i * 3 + 2, none⟩) hgl).trans k0, (hb.frozen (p := ⟨g, i * 3 + 1, none⟩) hgl).trans (hfree _), (hb.frozen (p := ⟨g, i * 3 + 2, none⟩) hgl).trans (hfree _)⟩
        have HROW : Hid (∀ u, Below wr.heap.size wr u → Row u aa f.b) := fun u hb => kb.row.below hb (Nat.le_refl _)
        have HSL : Hid (∀ u (m : Nat), m ≤ c → (Instr.slice 31 (.slice aa M c) none (some (.int .i64 (m : Int))) none).run Try.prog u = .ok (.slice aa m c) u) := fun u m hm => slice_any u aa (fun ad e => by obtain ⟨bb, e2, _⟩ := kb.own ad e; exact ⟨bb, e2⟩) M c m hm kb.nil (fun e => by have := kb.nil e; omega)
        have HNIL : Hid (aa = none → M = 0 ∧ c = 0) := fun e => ⟨by have := kb.nil e; omega, kb.nil e⟩
        have HEND : Hid (∀ (w6 : World) (a6 : Option Addr) (c6 m : Nat) (zs : List Int), Below wr.heap.size wr w6 → zs.length = m → By zs → w6.ownsRow wr.heap.size 5 1 (.slice a6 m c6) m (bs zs) → crashF K torn f = ⟨f.name, zs, m⟩ → ∃ X', DiskR ((w6.setCell ⟨g, i * 3 + 1, none⟩ (.slice a6 m c6)).setCell ⟨g, i * 3 + 2, none⟩ (.int .i64 (m : Int))) b { S with off := true, fs := mixN K torn S.fs (i + 1) } X' ∧ Did w ((w6.setCell ⟨g, i * 3 + 1, none⟩ (.slice a6 m c6)).setCell ⟨g, i * 3 + 2, none⟩ (.int .i64 (m : Int))) X X') := fun w6 a6 c6 m zs hb6 hm hz ho he => by
          obtain ⟨r1, r2⟩ := HR1.out.1.crashed (by rw [show ({ S with off := true, fs := mixN K torn S.fs i } : DS).fs.length = N from HML.out]; exact c1) hgb hXg (by rw [show ({ S with off := true, fs := mixN K torn S.fs i } : DS).fs.length = N from HML.out]; exact hcap) hfree hall HIF.out hb6 hm hz ho
          rw [HNX.out, he]
          exact ⟨_, r1, HR1.out.2.trans r2⟩
        have HFB : Hid (By f.b) := kb.row.bytes
        have HBB : Hid (∀ j, j < M → ∃ bb, aa = some ⟨bb, 0, none⟩ ∧ ∀ u, Below wr.heap.size wr u → u.cell? ⟨bb, j, none⟩ = some (.int .u8 (f.b.getD j 0))) := fun j hj => by
          rcases kb.row.cells with e | ⟨bb, oo, e, hc⟩
          · have := HM.out; rw [e] at this; simp at this; omega
          · obtain ⟨b2, e2, _⟩ := kb.own _ e
            injection e2 with e3 e4
            subst e4
            refine ⟨bb, e, fun u hb => ?_⟩
            have h0 := hc j (by rw [← HM.out]; exact hj)
            rw [Nat.zero_add] at h0
            rw [hb.cell (p := ⟨bb, j, none⟩) (cell_lt h0)]; exact h0
        clear hr kb hall hfree hM hsfe
        have q1 := (HKU.out wr (Below.refl _ _)).1
        have ws1 : IntKind.i64.wrap ((M : Int) - (sf : Int)) = (M : Int) - (sf : Int) := by rw [IntKind.wrap_i64]; omega
        by_cases hkn : (K : Nat) < M - sf
        · have bk : decide (((K : Nat) : Int) < (M : Int) - (sf : Int)) = true := decide_eq_true (by omega)
          by_cases ht0 : torn = 0
          · have bt : (torn != 0) = false := by simp [ht0]
            have HT0 : Hid (torn = 0) := ht0
            clear ht0
            go_wp2
            go_quiet (fail)
            go_wp2
            have ws2 : IntKind.i64.wrap ((sf : Int) + (((K : Nat) : Int))) = ((sf + (K : Nat) : Nat) : Int) := by rw [IntKind.wrap_i64]; omega
            obtain ⟨m, hm⟩ : ∃ m, m = sf + (K : Nat) := ⟨_, rfl⟩
            rw [← hm] at ws2
            have hmc : m ≤ c := by omega
            have hmM : m ≤ M := by omega
            have HMM : Hid (m = sf + (K : Nat)) := hm
            obtain ⟨U, hU⟩ : ∃ U, U = wr.drewN nq := ⟨_, rfl⟩
            have HBU : Hid (Below wr.heap.size wr U ∧ U.heap.size = wr.heap.size) := by rw [hU]; exact ⟨below_drewN (Below.refl _ _) nq, rfl⟩
            rw [← hU]
            clear hU hm
            have hsl : ∀ u, (Instr.slice 31 (.slice aa M c) none (some (.int .i64 (m : Int))) none).run Try.prog u = .ok (.slice aa m c) u := fun u => HSL.out u m hmc
            obtain ⟨Z, hZ⟩ : ∃ Z, Z = f.b.take m := ⟨_, rfl⟩
            have HZE : Hid (Z = f.b.take m) := hZ
            have HZL : Hid (Z.length = m) := by show _ = _; rw [hZ, List.length_take, ← HM.out]; omega
            have RZ : Hid (∀ u, Below U.heap.size U u → Row u aa Z) := fun u hb => by rw [hZ]; exact (HROW.out u (HBU.out.1.trans (hb.mono HBU.out.1.size))).take m
            have HNLm : Hid (aa = none → m = 0 ∧ c = 0) := fun e => by have := HNIL.out e; exact ⟨by omega, this.2⟩
            have HKS : Hid (∀ u, Below U.heap.size U u → u.cell? ⟨g, i * 3 + 1, none⟩ = some (.slice aa M c) ∧ u.cell? ⟨g, i * 3 + 2, none⟩ = some (.int .i64 (sf : Int))) := fun u hb => ⟨(HKU.out u (HBU.out.1.trans (hb.mono HBU.out.1.size))).1, (HKU.out u (HBU.out.1.trans (hb.mono HBU.out.1.size))).2.1⟩
            have ws4 : IntKind.i64.wrap (m : Int) = (m : Int) := by rw [IntKind.wrap_i64]; omega
            clear hZ q1 k0 k1
            go_region_held3 (fun u => u.cell? ⟨g, i * 3 + 1, none⟩ = some (.slice aa M c) ∧ u.cell? ⟨g, i * 3 + 2, none⟩ = some (.int .i64 (sf : Int))) (first | exact HKS.out _ B5.out | exact HKS.out _ (Below.refl _ _).drew | exact HKS.out _ ((Below.refl _ _).alloc (Nat.le_refl _) _).drew) (first | (refine step_append_first rfl (.tmp 52) (.tmp 63) rfl U.heap.size (.slice (some ⟨U.heap.size, 0, none⟩) 0 0) Z rfl (World.ownsRow_made U #[] 0 (Nat.le_refl _) (by decide) rfl).drew _ m _ rfl (RZ.out _ ((Below.refl _ _).alloc (Nat.le_refl _) _).drew) HZL.out HNLm.out (by omega) (by simp) U ((Below.refl _ _).alloc (Nat.le_refl _) _).drew ?_; intro a5 c5 w5 h5 hb5; have O5 : Hid (w5.ownsRow U.heap.size 5 1 (.slice a5 m c5) m (bs Z)) := h5; have B5 : Hid (Below U.heap.size U w5) := hb5; clear h5 hb5))
            obtain ⟨p1, p2, p3, p4⟩ := HKU.out w5 (HBU.out.1.trans (B5.out.mono HBU.out.1.size))
            have p5 : (w5.setCell ⟨g, i * 3 + 1, none⟩ (.slice a5 m c5)).cell? ⟨g, i * 3 + 2, none⟩ = some (.int .i64 (sf : Int)) := (World.cell?_setCell_other _ _ _ _ (by intro e; injection e with _ e2; omega)).trans p2
            have HCF : Hid (crashF K torn f = ⟨f.name, Z, m⟩) := by
              show _ = _
              unfold crashF
              simp only
              rw [if_neg (fun h => h.2 HT0.out), Nat.min_eq_left (by rw [← HM.out, ← HSF.out]; omega), show f.safe + (K : Nat) = m from by rw [HMM.out, ← HSF.out], ← HZE.out, HZL.out]
            go_wp2
            go_roundw
            case rel => exact ⟨i + 1, by simp, by omega, HEND.out w5 a5 c5 m Z (HBU.out.1.trans (B5.out.mono HBU.out.1.size)) HZL.out (by rw [HZE.out]; exact By.take HFB.out m) (by rw [← HBU.out.2]; exact O5.out) (HCF.out)⟩
            case measure => simp [intOf]; omega
          · have bt : (torn != 0) = true := by simpa using ht0
            have HT0 : Hid (torn ≠ 0) := ht0
            clear ht0
            obtain ⟨bb, hbb, hby⟩ := HBB.out (sf + (K : Nat)) (by omega)
            subst hbb
            obtain ⟨Y, hY⟩ : ∃ Y, Y = f.b.getD (sf + (K : Nat)) 0 := ⟨_, rfl⟩
            rw [← hY] at hby
            have HBY : Hid (∀ u, Below wr.heap.size wr u → u.cell? ⟨bb, sf + (K : Nat), none⟩ = some (.int .u8 Y)) := hby
            have hYb : 0 ≤ Y ∧ Y ≤ 255 := by rw [hY]; exact at_byte HFB.out _
            obtain ⟨XB, hXB⟩ : ∃ XB, XB = xorB Y torn := ⟨_, rfl⟩
            have hx := xor_u8 Y torn hYb ht
            rw [← hXB] at hx
            have hXb : 0 ≤ XB ∧ XB ≤ 255 := by rw [hXB]; exact xorB_byte Y torn hYb ht
            have HXE : Hid (XB = xorB (f.b.getD (sf + (K : Nat)) 0) torn) := by show _ = _; rw [hXB, hY]
            clear hby hY hXB HBB
            go_wp2
            go_quiet (fail)
            go_wp2
            have ws2 : IntKind.i64.wrap ((sf : Int) + (((K : Nat) : Int))) = ((sf + (K : Nat) : Nat) : Int) := by rw [IntKind.wrap_i64]; omega
            obtain ⟨m, hm⟩ : ∃ m, m = sf + (K : Nat) := ⟨_, rfl⟩
            rw [← hm] at ws2
            have hmc : m ≤ c := by omega
            have hmM : m ≤ M := by omega
            have HMM : Hid (m = sf + (K : Nat)) := hm
            obtain ⟨U, hU⟩ : ∃ U, U = wr.drewN nq := ⟨_, rfl⟩
            have HBU : Hid (Below wr.heap.size wr U ∧ U.heap.size = wr.heap.size) := by rw [hU]; exact ⟨below_drewN (Below.refl _ _) nq, rfl⟩
            rw [← hU]
            clear hU hm
            have hsl : ∀ u, (Instr.slice 31 (.slice (some ⟨bb, 0, none⟩) M c) none (some (.int .i64 (m : Int))) none).run Try.prog u = .ok (.slice (some ⟨bb, 0, none⟩) m c) u := fun u => HSL.out u m hmc
            obtain ⟨Z, hZ⟩ : ∃ Z, Z = f.b.take m := ⟨_, rfl⟩
            have HZE : Hid (Z = f.b.take m) := hZ
            have HZL : Hid (Z.length = m) := by show _ = _; rw [hZ, List.length_take, ← HM.out]; omega
            have RZ : Hid (∀ u, Below U.heap.size U u → Row u (some ⟨bb, 0, none⟩) Z) := fun u hb => by rw [hZ]; exact (HROW.out u (HBU.out.1.trans (hb.mono HBU.out.1.size))).take m
            have HNLm : Hid ((some ⟨bb, 0, none⟩ : Option Addr) = none → m = 0 ∧ c = 0) := fun e => by have := HNIL.out e; exact ⟨by omega, this.2⟩
            have HKS : Hid (∀ u, Below U.heap.size U u → u.cell? ⟨g, i * 3 + 1, none⟩ = some (.slice (some ⟨bb, 0, none⟩) M c) ∧ u.cell? ⟨g, i * 3 + 2, none⟩ = some (.int .i64 (sf : Int))) := fun u hb => ⟨(HKU.out u (HBU.out.1.trans (hb.mono HBU.out.1.size))).1, (HKU.out u (HBU.out.1.trans (hb.mono HBU.out.1.size))).2.1⟩
            have ws4 : IntKind.i64.wrap (m : Int) = (m : Int) := by rw [IntKind.wrap_i64]; omega
            clear hZ q1 k0 k1
            go_region_held3 (fun u => u.cell? ⟨g, i * 3 + 1, none⟩ = some (.slice (some ⟨bb, 0, none⟩) M c) ∧ u.cell? ⟨g, i * 3 + 2, none⟩ = some (.int .i64 (sf : Int))) (first | exact HKS.out _ B5.out | exact HKS.out _ (Below.refl _ _).drew | exact HKS.out _ ((Below.refl _ _).alloc (Nat.le_refl _) _).drew) (first | (refine step_append_first rfl (.tmp 52) (.tmp 63) rfl U.heap.size (.slice (some ⟨U.heap.size, 0, none⟩) 0 0) Z rfl (World.ownsRow_made U #[] 0 (Nat.le_refl _) (by decide) rfl).drew _ m _ rfl (RZ.out _ ((Below.refl _ _).alloc (Nat.le_refl _) _).drew) HZL.out HNLm.out (by omega) (by simp) U ((Below.refl _ _).alloc (Nat.le_refl _) _).drew ?_; intro a5 c5 w5 h5 hb5; have O5 : Hid (w5.ownsRow U.heap.size 5 1 (.slice a5 m c5) m (bs Z)) := h5; have B5 : Hid (Below U.heap.size U w5) := hb5; clear h5 hb5))
            obtain ⟨p1, p2, p3, p4⟩ := HKU.out w5 (HBU.out.1.trans (B5.out.mono HBU.out.1.size))
            have p5 : (w5.setCell ⟨g, i * 3 + 1, none⟩ (.slice a5 m c5)).cell? ⟨g, i * 3 + 2, none⟩ = some (.int .i64 (sf : Int)) := (World.cell?_setCell_other _ _ _ _ (by intro e; injection e with _ e2; omega)).trans p2
            have hmlt : m < M := by have := HMM.out; omega
            have HBM : Hid (∀ u, Below wr.heap.size wr u → u.cell? ⟨bb, m, none⟩ = some (.int .u8 Y)) := by rw [HMM.out]; exact HBY.out
            have HKS2 : Hid (∀ u, Below U.heap.size U u → u.cell? ⟨g, i * 3 + 1, none⟩ = some (.slice (some ⟨bb, 0, none⟩) M c) ∧ u.cell? ⟨g, i * 3 + 2, none⟩ = some (.int .i64 (sf : Int)) ∧ u.cell? ⟨bb, m, none⟩ = some (.int .u8 Y)) := fun u hb => ⟨(HKS.out u hb).1, (HKS.out u hb).2, HBM.out u (HBU.out.1.trans (hb.mono HBU.out.1.size))⟩
            have m0 : (0 : Int) ≤ (m : Int) := by omega
            have m1 : (m : Int) < (M : Int) := by omega
            have HZB : Hid (By Z) := by show By Z; rw [HZE.out]; exact By.take HFB.out m
            have hs5 : U.heap.size ≤ w5.heap.size := B5.out.size
            clear p1 p2 p3 p4 p5
            go_wp2
            go_region_held3 (fun u => u.cell? ⟨g, i * 3 + 1, none⟩ = some (.slice (some ⟨bb, 0, none⟩) M c) ∧ u.cell? ⟨g, i * 3 + 2, none⟩ = some (.int .i64 (sf : Int)) ∧ u.cell? ⟨bb, m, none⟩ = some (.int .u8 Y)) (first | exact HKS2.out _ B6.out | exact HKS2.out _ B5.out.drew | exact HKS2.out _ (B5.out.alloc B5.out.size _).drew) (first | (refine step_append_row rfl (.tmp 66) (.tmp 81) rfl U.heap.size (.slice a5 m c5) m Z [XB] rfl (O5.out.alloc _).drew _ 1 _ rfl ((row_four w5 _ [XB] rfl (fun z hz => by simp at hz; rw [hz]; exact hXb)).same rfl) rfl (fun h => by cases h) HZB.out (by omega) (by simp; omega) ?_; intro a6 c6 w6 h6 hg6; have O6 : Hid (w6.ownsRow U.heap.size 5 1 (.slice a6 (m + 1) c6) (m + 1) (bs (Z ++ [XB]))) := h6; have B6 : Hid (Below U.heap.size U w6) := (B5.out.alloc B5.out.size _).drew.grown hg6 (by simp; omega) (fun k hk => (O5.out.lt k hk).1); clear h6 hg6))
            obtain ⟨p1, p2, p3, p4⟩ := HKU.out w6 (HBU.out.1.trans (B6.out.mono HBU.out.1.size))
            have p5 : (w6.setCell ⟨g, i * 3 + 1, none⟩ (.slice a6 (m + 1) c6)).cell? ⟨g, i * 3 + 2, none⟩ = some (.int .i64 (sf : Int)) := (World.cell?_setCell_other _ _ _ _ (by intro e; injection e with _ e2; omega)).trans p2
            have HCF : Hid (crashF K torn f = ⟨f.name, Z ++ [XB], m + 1⟩) := by
              show _ = _
              unfold crashF
              simp only
              rw [if_pos ⟨by rw [← HM.out, ← HSF.out]; omega, HT0.out⟩, show f.safe + (K : Nat) = m from by rw [HMM.out, ← HSF.out], ← HZE.out, show xorB (f.b.getD m 0) torn = XB from by rw [HXE.out, HMM.out], List.length_append, HZL.out]
              rfl
            go_wp2
            go_roundw
            case rel =>
              refine ⟨i + 1, by simp, by omega, ?_⟩
              have := HEND.out w6 a6 c6 (m + 1) (Z ++ [XB]) (HBU.out.1.trans (B6.out.mono HBU.out.1.size)) (by rw [List.length_append, HZL.out]; rfl) (By.app HZB.out (fun z hz => by simp at hz; rw [hz]; exact hXb)) (by rw [← HBU.out.2]; exact O6.out) HCF.out
              rw [show (((m + 1 : Nat)) : Int) = (m : Int) + 1 from by omega] at this
              exact this
            case measure => simp [intOf]; omega
        · have bk : decide (((K : Nat) : Int) < (M : Int) - (sf : Int)) = false := decide_eq_false (by omega)
          go_wp2
          go_quiet (fail)
          go_wp2
          obtain ⟨D, hD⟩ : ∃ D : Nat, (M : Int) - (sf : Int) = (D : Int) := ⟨M - sf, by omega⟩
          have HDD : Hid (D = M - sf) := by show _ = _; omega
          rw [hD]
          have hDM : sf + D = M := by omega
          clear hD ws1 bk
          have ws2 : IntKind.i64.wrap ((sf : Int) + (((D : Nat) : Int))) = ((sf + D : Nat) : Int) := by rw [IntKind.wrap_i64]; omega
          obtain ⟨m, hm⟩ : ∃ m, m = sf + D := ⟨_, rfl⟩
          rw [← hm] at ws2
          have hmc : m ≤ c := by omega
          have hmM : m ≤ M := by omega
          have HMM : Hid (m = sf + D) := hm
          obtain ⟨U, hU⟩ : ∃ U, U = wr.drewN nq := ⟨_, rfl⟩
          have HBU : Hid (Below wr.heap.size wr U ∧ U.heap.size = wr.heap.size) := by rw [hU]; exact ⟨below_drewN (Below.refl _ _) nq, rfl⟩
          rw [← hU]
          clear hU hm
          have hsl : ∀ u, (Instr.slice 31 (.slice aa M c) none (some (.int .i64 (m : Int))) none).run Try.prog u = .ok (.slice aa m c) u := fun u => HSL.out u m hmc
          obtain ⟨Z, hZ⟩ : ∃ Z, Z = f.b.take m := ⟨_, rfl⟩
          have HZE : Hid (Z = f.b.take m) := hZ
          have HZL : Hid (Z.length = m) := by show _ = _; rw [hZ, List.length_take, ← HM.out]; omega
          have RZ : Hid (∀ u, Below U.heap.size U u → Row u aa Z) := fun u hb => by rw [hZ]; exact (HROW.out u (HBU.out.1.trans (hb.mono HBU.out.1.size))).take m
          have HNLm : Hid (aa = none → m = 0 ∧ c = 0) := fun e => by have := HNIL.out e; exact ⟨by omega, this.2⟩
          have HKS : Hid (∀ u, Below U.heap.size U u → u.cell? ⟨g, i * 3 + 1, none⟩ = some (.slice aa M c) ∧ u.cell? ⟨g, i * 3 + 2, none⟩ = some (.int .i64 (sf : Int))) := fun u hb => ⟨(HKU.out u (HBU.out.1.trans (hb.mono HBU.out.1.size))).1, (HKU.out u (HBU.out.1.trans (hb.mono HBU.out.1.size))).2.1⟩
          have ws4 : IntKind.i64.wrap (m : Int) = (m : Int) := by rw [IntKind.wrap_i64]; omega
          clear hZ q1 k0 k1
          go_region_held3 (fun u => u.cell? ⟨g, i * 3 + 1, none⟩ = some (.slice aa M c) ∧ u.cell? ⟨g, i * 3 + 2, none⟩ = some (.int .i64 (sf : Int))) (first | exact HKS.out _ B5.out | exact HKS.out _ (Below.refl _ _).drew | exact HKS.out _ ((Below.refl _ _).alloc (Nat.le_refl _) _).drew) (first | (refine step_append_first rfl (.tmp 52) (.tmp 63) rfl U.heap.size (.slice (some ⟨U.heap.size, 0, none⟩) 0 0) Z rfl (World.ownsRow_made U #[] 0 (Nat.le_refl _) (by decide) rfl).drew _ m _ rfl (RZ.out _ ((Below.refl _ _).alloc (Nat.le_refl _) _).drew) HZL.out HNLm.out (by omega) (by simp) U ((Below.refl _ _).alloc (Nat.le_refl _) _).drew ?_; intro a5 c5 w5 h5 hb5; have O5 : Hid (w5.ownsRow U.heap.size 5 1 (.slice a5 m c5) m (bs Z)) := h5; have B5 : Hid (Below U.heap.size U w5) := hb5; clear h5 hb5))
          obtain ⟨p1, p2, p3, p4⟩ := HKU.out w5 (HBU.out.1.trans (B5.out.mono HBU.out.1.size))
          have p5 : (w5.setCell ⟨g, i * 3 + 1, none⟩ (.slice a5 m c5)).cell? ⟨g, i * 3 + 2, none⟩ = some (.int .i64 (sf : Int)) := (World.cell?_setCell_other _ _ _ _ (by intro e; injection e with _ e2; omega)).trans p2
          have HCF : Hid (crashF K torn f = ⟨f.name, Z, m⟩) := by
            show _ = _
            unfold crashF
            simp only
            rw [if_neg (by rw [← HM.out, ← HSF.out]; omega), Nat.min_eq_right (by rw [← HM.out, ← HSF.out]; omega), show f.safe + (f.b.length - f.safe) = m from by rw [HMM.out, HDD.out, ← HM.out, ← HSF.out], ← HZE.out, HZL.out]
          go_wp2
          go_roundw
          case rel => exact ⟨i + 1, by simp, by omega, HEND.out w5 a5 c5 m Z (HBU.out.1.trans (B5.out.mono HBU.out.1.size)) HZL.out (by rw [HZE.out]; exact By.take HFB.out m) (by rw [← HBU.out.2]; exact O5.out) (HCF.out)⟩
          case measure => simp [intOf]; omega
      · have hiN : i = N := by omega
        have HE : Hid (∃ X', DiskR wr b S' X' ∧ Did w wr X X') := by rw [HCR.out, ← hiN]; exact ⟨X1, HR1.out⟩
        obtain ⟨la, cap, c1, hcap, _⟩ := HR1.out.1.lst
        rw [show ({ S with off := true, fs := mixN K torn S.fs i } : DS).fs.length = N from HML.out] at c1 hcap
        have bN : decide ((i : Int) < (N : Int)) = false := decide_eq_false (by omega)
        clear hiN
        go_wp2
        go_end0
        exact ⟨rfl, HE.out⟩
end Go.Proofs.Ytlfmhdljldbjmaa
