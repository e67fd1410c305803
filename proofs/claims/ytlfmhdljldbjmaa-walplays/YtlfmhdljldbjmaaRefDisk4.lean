/-
  What the document's own disks (hourglassref8: Cut of a Disk) answer and leave.
-/
import Derived.Test.YtlfmhdljldbjmaaRefDisk3
import Derived.Test.YtlfmhdljldbjmaaRecs
import Derived.Test.YtlfmhdljldbjmaaRefScan
import Derived.Deep.RegionLaw
import Derived.Deep.DeepCutAuto
namespace Go.Proofs.Ytlfmhdljldbjmaa
open Go.RowKit
set_option linter.unusedVariables false

theorem slice_top (w : World) (b len cap h : Nat) (hh : h ≤ cap) :
    (Instr.slice 31 (.slice (some ⟨b, 0, none⟩) len cap) none (some (.int .i64 (h : Int))) none).run Try.prog w = .ok (.slice (some ⟨b, 0, none⟩) h cap) w := by
  obtain ⟨i0, hi, _⟩ := info_parts info5
  rw [run_slice_h w 31 _ len cap (by rw [elemB]; exact Try.underlying31) .i64 (h : Int) (by omega) (by omega), elemB, run_sizeOf w hi]
  simp [sliced, add_plain]
theorem size_at {fs : List FileV} {i : Nat} {f : FileV} (h : fs[i]? = some f) : f.b.length ≤ sizeN fs := by
  have h1 := size_take fs i f h
  have h2 := size_le fs (i + 1)
  omega
theorem slice_any (w : World) (a : Option Addr) (ha : ∀ ad, a = some ad → ∃ bb, ad = ⟨bb, 0, none⟩) (len cap h : Nat) (hh : h ≤ cap) (hn : a = none → cap = 0) (hlen : a = none → len = 0) :
    (Instr.slice 31 (.slice a len cap) none (some (.int .i64 (h : Int))) none).run Try.prog w = .ok (.slice a h cap) w := by
  cases a with
  | none =>
    obtain rfl := hn rfl
    obtain rfl := hlen rfl
    obtain rfl : h = 0 := by omega
    kernel_rfl
  | some ad =>
    obtain ⟨bb, rfl⟩ := ha ad rfl
    exact slice_top w bb len cap h hh
/-- A file whose bytes are new. -/
theorem FileR.anew {u : World} {b g o : Nat} {f : FileV} {X : Foot} {w : World} {zs : List Int} {a : Option Addr} {c m : Nat} (h : FileR u b g o f X) (hg : g < w.heap.size) (hb : b < w.heap.size) (hm : zs.length = m) (hz : By zs)
    (hown : u.ownsRow w.heap.size 5 1 (.slice a m c) m (bs zs)) : FileR (u.setCell ⟨g, o + 1, none⟩ (.slice a m c)) b g o { f with b := zs } (fun k => X k ∨ w.heap.size ≤ k ∧ k < u.heap.size) := by
  obtain ⟨x0, ⟨a', c', y1, _⟩, x2⟩ := h
  have hrow := own_row hown hz
  have hown' := hown.2
  refine ⟨(World.cell?_setCell_other _ _ _ _ (by intro e; injection e with _ e2; omega)).trans x0, ⟨a, c, ?_, ?_⟩, (World.cell?_setCell_other _ _ _ _ (by intro e; injection e with _ e2; omega)).trans x2⟩
  · show _ = some (Value.slice a zs.length c)
    rw [hm]; exact World.cell?_setCell_same _ _ _ y1
  · have hb0 : Buf u a c zs (fun k => X k ∨ w.heap.size ≤ k ∧ k < u.heap.size) g b := by
      rcases hown' with ⟨e, e0⟩ | ⟨q, cap, cur, e, hq, hqq, hle, _⟩
      · injection e with e1 e2 e3
        subst e1; subst e3
        exact ⟨by omega, fun _ => rfl, hrow, fun ad h => by cases h⟩
      · injection e with e1 e2 e3
        subst e1; subst e3
        have hlt : q < u.heap.size := (Array.getElem?_eq_some_iff.1 hqq).1
        exact ⟨by omega, (fun h => by cases h), hrow, fun ad h => by injection h with h; subst h; exact ⟨q, rfl, .inr ⟨hq, hlt⟩, by omega, by omega⟩⟩
    exact hb0.kept (fun k _ x2 _ => Below.heap_setCell _ ⟨g, o + 1, none⟩ _ k x2) (fun _ x => x)
theorem FileR.nowsafe {u : World} {b g o : Nat} {f : FileV} {X : Foot} (h : FileR u b g o f X) (v : Nat) : FileR (u.setCell ⟨g, o + 2, none⟩ (.int .i64 (v : Int))) b g o { f with safe := v } X := by
  obtain ⟨x0, ⟨a, c, y1, y2⟩, x2⟩ := h
  exact ⟨(World.cell?_setCell_other _ _ _ _ (by intro e; injection e with _ e2; omega)).trans x0, ⟨a, c, (World.cell?_setCell_other _ _ _ _ (by intro e; injection e with _ e2; omega)).trans y1, y2.kept (fun k _ x2 _ => Below.heap_setCell _ ⟨g, o + 2, none⟩ _ k x2) (fun _ x => x)⟩, World.cell?_setCell_same _ _ _ x2⟩
set_option maxHeartbeats 1000000 in
theorem rdcut_any (b : Nat) (S : DS) (X : Foot) (s : List Int) (n : Int) (w : World) (h : DiskR w b S X) (hs : By s) (hl : s.length ≤ 1000000) (hz : sizeN S.fs ≤ 1099511627776) :
    Calls Try.prog 45 #[.pointer (some ⟨b, 0, none⟩), .string (strOfNums s), .int .i64 n] w fun e w' => ∃ X', e = .returned (.int .i64 (S.cut s n).1) ∧ DiskR w' b (S.cut s n).2 X' ∧ Did w w' X X' := by
  have CA : Hid (Calls Try.prog 51 #[.pointer (some ⟨b, 0, none⟩), .string (strOfNums s)] w fun e w' => e = .returned (.tuple #[.int .i64 (S.place s), .int .i64 (S.err s)]) ∧ w' = w) := rask_any b S X s w h hs hl
  rcases err_codes S s with h0 | ⟨h0, hcode⟩
  · obtain ⟨ho, hm, i, f, hf, hif, hfn⟩ := err_zero h0
    rw [h0, place_zero ho hm hf] at CA
    have e : S.cut s n = if n < 0 ∨ (f.b.length : Int) < n then (1, S) else (0, { S with fs := setF S.fs i { f with b := f.b.take n.toNat, safe := min f.safe n.toNat } }) := by unfold DS.cut; rw [if_pos h0, hf]; simp [file_at hif]
    rw [e]
    clear e
    rcases h.list with ⟨_, h2⟩ | ⟨g, cap, c1, hcap, hXg, hgb, hfree, hall⟩
    · rw [h2] at hif; simp at hif
    have hr := hall i f hif
    obtain ⟨aa, c, k1, kb⟩ := hr.c1
    have k0 := hr.c2
    have hil : i < S.fs.length := (List.getElem?_eq_some_iff.1 hif).1
    have hfew := h.few
    have HD : Hid (DiskR w b S X) := h
    obtain ⟨N, hN⟩ : ∃ N, N = S.fs.length := ⟨_, rfl⟩
    rw [← hN] at c1 hcap hil hfew
    obtain ⟨M, hM⟩ : ∃ M, M = f.b.length := ⟨_, rfl⟩
    have k2 := kb.le
    rw [← hM] at k1 k2 ⊢
    by_cases hbad : n < 0 ∨ (M : Int) < n
    · rw [if_pos hbad]
      clear hr kb hall h hN hif hM h0 hf ho hm hfree
      by_cases hn0 : n < 0
      · have b1 : decide (n < 0) = true := decide_eq_true hn0
        go_enter Try.func45, Try.ntmps45
        go_wp2_with (go_at_call 51; refine CA.out.mono ?_; rintro e wz ⟨rfl, hwz⟩; obtain rfl := hwz.symm; clear hwz)
        go_ret
        exact ⟨X, rfl, HD.out, Did.stay (Below.refl _ _) HD.out.lt⟩
      · have b1 : decide (n < 0) = false := decide_eq_false hn0
        have b2 : decide ((M : Int) < n) = true := decide_eq_true (by omega)
        go_enter Try.func45, Try.ntmps45
        go_wp2_with (go_at_call 51; refine CA.out.mono ?_; rintro e wz ⟨rfl, hwz⟩; obtain rfl := hwz.symm; clear hwz)
        go_ret
        exact ⟨X, rfl, HD.out, Did.stay (Below.refl _ _) HD.out.lt⟩
    · rw [if_neg hbad]
      obtain ⟨m, rfl⟩ : ∃ m : Nat, n = m := ⟨n.toNat, by omega⟩
      have hmM : m ≤ M := by omega
      have b1 : decide ((m : Int) < 0) = false := decide_eq_false (by omega)
      have b2 : decide ((M : Int) < (m : Int)) = false := decide_eq_false (by omega)
      have hbig : M ≤ 1099511627776 := by rw [hM]; exact Nat.le_trans (size_at hif) hz
      have hsl : ∀ u, (Instr.slice 31 (.slice aa M c) none (some (.int .i64 (m : Int))) none).run Try.prog u = .ok (.slice aa m c) u := fun u => slice_any u aa (fun ad e => by obtain ⟨bb, e2, _⟩ := kb.own ad e; exact ⟨bb, e2⟩) M c m (by omega) kb.nil (fun e => by have := kb.nil e; omega)
      obtain ⟨Z, hZ⟩ : ∃ Z, Z = f.b.take m := ⟨_, rfl⟩
      have HZL : Hid (Z.length = m) := by show _ = _; rw [hZ, List.length_take, ← hM]; omega
      have HRW : Hid (∀ u, Below w.heap.size w u → Row u aa Z) := fun u hb => by rw [hZ]; exact (kb.row.below hb (Nat.le_refl _)).take m
      have HNIL : Hid (aa = none → m = 0 ∧ c = 0) := fun e => by have := kb.nil e; exact ⟨by omega, this⟩
      have hgl : g < w.heap.size := h.lt g hXg
      have HA : Hid (∀ j x, S.fs[j]? = some x → FileR w b g (j * 3) x X) := hall
      have HIF : Hid (S.fs[i]? = some f) := hif
      have HFR : Hid (∀ j, w.frozen? ⟨g, j, none⟩ = false) := hfree
      have HC : Hid (∀ u, Below w.heap.size w u → u.cell? ⟨b, 1, none⟩ = some (.slice (some ⟨g, 0, none⟩) N cap) ∧ u.cell? ⟨g, i * 3 + 1, none⟩ = some (.slice aa M c) ∧ u.frozen? ⟨g, i * 3 + 1, none⟩ = false) := fun u hb => ⟨(hb.cell (p := ⟨b, 1, none⟩) (h.lt b h.own)).trans c1, (hb.cell (p := ⟨g, i * 3 + 1, none⟩) hgl).trans k1, (hb.frozen (p := ⟨g, i * 3 + 1, none⟩) hgl).trans (hfree _)⟩
      obtain ⟨v1, v2, _⟩ := HC.out _ ((Below.refl w.heap.size w).alloc (Nat.le_refl _) (.cells #[] 5))
      have HZB : Hid (By Z) := by show By Z; rw [hZ]; exact By.take kb.row.bytes m
      have HZE : Hid (Z = f.b.take m) := hZ
      have HNN : Hid (N = S.fs.length) := hN
      have hsf := h.good.safe f (List.mem_of_getElem? hif)
      have hnm := h.good.names f (List.mem_of_getElem? hif)
      have HNM : Hid (mayN f.name = true) := hnm
      obtain ⟨sf, hsfe⟩ : ∃ sf, sf = f.safe := ⟨_, rfl⟩
      have HSF : Hid (sf = f.safe) := hsfe
      rw [← hsfe] at k0 hsf
      rw [← hM] at hsf
      have em : (m : Int).toNat = m := by omega
      rw [em, ← hZ]
      obtain ⟨sm, hsm⟩ : ∃ sm, sm = min f.safe m := ⟨_, rfl⟩
      have HSM : Hid (sm = min f.safe m) := hsm
      rw [← hsm]
      obtain ⟨S', hS'⟩ : ∃ S', S' = ({ S with fs := setF S.fs i { f with b := Z, safe := sm } } : DS) := ⟨_, rfl⟩
      have HS' : Hid (S' = ({ S with fs := setF S.fs i { f with b := Z, safe := sm } } : DS)) := hS'
      show Calls _ _ _ _ fun e w' => ∃ X', e = .returned (.int .i64 0) ∧ DiskR w' b ({ S with fs := setF S.fs i { f with b := Z, safe := sm } } : DS) X' ∧ Did w w' X X'
      rw [← hS']
      clear hr kb hall h hN hif hM h0 hf ho hm hfree hZ hnm hsfe em hsm hS' hfn
      go_enter Try.func45, Try.ntmps45
      go_wp2_with (go_at_call 51; refine CA.out.mono ?_; rintro e wz ⟨rfl, hwz⟩; obtain rfl := hwz.symm; clear hwz)
      go_cut [49] (fun p wr => ∃ a4 c4 w4, p = .slice a4 m c4 ∧ Hid (wr = w4.setCell ⟨g, i * 3 + 1, none⟩ (.slice a4 m c4) ∧ w4.ownsRow w.heap.size 5 1 (.slice a4 m c4) m (bs Z) ∧ Below w.heap.size w w4))
      case first =>
       go_region_law (refine step_append_first rfl (.tmp 38) (.tmp 48) rfl w.heap.size (.slice (some ⟨w.heap.size, 0, none⟩) 0 0) Z rfl (World.ownsRow_made w #[] 0 (Nat.le_refl _) (by decide) rfl).drew _ m _ rfl (HRW.out _ ((Below.refl _ _).alloc (Nat.le_refl _) _).drew) HZL.out HNIL.out (by omega) (by simp) w ((Below.refl _ _).alloc (Nat.le_refl _) _).drew ?_; intro a4 c4 w4 h4 hb4; have O4 : Hid (w4.ownsRow w.heap.size 5 1 (.slice a4 m c4) m (bs Z)) := h4; have B4 : Hid (Below w.heap.size w w4) := hb4; obtain ⟨y1, y2, y3⟩ := HC.out w4 hb4; clear h4 hb4)
       all_goals
        go_wp2_with fail
        go_meet
        case rel => exact ⟨_, _, w4, rfl, rfl, O4.out, B4.out⟩
      case rest =>
       obtain ⟨a4, c4, w4, rfl, HW⟩ := hcut
       have hg4 : g < w4.heap.size := Nat.lt_of_lt_of_le hgl HW.out.2.2.size
       have q1 : wc.cell? ⟨b, 1, none⟩ = some (.slice (some ⟨g, 0, none⟩) N cap) := by rw [HW.out.1]; exact (World.cell?_setCell_other _ _ _ _ (by intro e; injection e with e1 _; exact hgb e1)).trans (HC.out w4 HW.out.2.2).1
       have q2 : wc.cell? ⟨g, i * 3 + 2, none⟩ = some (.int .i64 sf) := by rw [HW.out.1]; exact (World.cell?_setCell_other _ _ _ _ (by intro e; injection e with _ e2; omega)).trans ((HW.out.2.2.cell (p := ⟨g, i * 3 + 2, none⟩) hgl).trans k0)
       have q3 : wc.frozen? ⟨g, i * 3 + 2, none⟩ = false := by rw [HW.out.1, World.frozen?_setCell]; exact (HW.out.2.2.frozen (p := ⟨g, i * 3 + 2, none⟩) hgl).trans (HFR.out _)
       have F1 : Hid (FileR wc b g (i * 3) { f with b := Z } (fun k => X k ∨ w.heap.size ≤ k ∧ k < w4.heap.size)) := by
         rw [HW.out.1]
         exact ((HA.out i f HIF.out).kept hXg (fun k x => HW.out.2.2.block k (HD.out.lt k x))).anew hgl (HD.out.lt b HD.out.own) HZL.out HZB.out HW.out.2.1
       have TURN : Hid (∀ u' f', FileR u' b g (i * 3) f' (fun k => X k ∨ w.heap.size ≤ k ∧ k < w4.heap.size) → Chg wc u' (fun k => k = g) → (∀ j o, j ≠ i → o < 3 → u'.cell? ⟨g, j * 3 + o, none⟩ = wc.cell? ⟨g, j * 3 + o, none⟩) → (∀ j, u'.frozen? ⟨g, j, none⟩ = wc.frozen? ⟨g, j, none⟩) → f'.safe ≤ f'.b.length → By f'.b → mayN f'.name = true → DiskR u' b { S with fs := setF S.fs i f' } (fun k => X k ∨ w.heap.size ≤ k ∧ k < w4.heap.size) ∧ Did w u' X (fun k => X k ∨ w.heap.size ≤ k ∧ k < w4.heap.size)) := by
         intro u' f' hf' hch hcl hfz t1 t2 t3
         have hs4 : w4.heap.size ≤ u'.heap.size := by have := hch.size; rw [HW.out.1, World.size_setCell] at this; exact this
         have hX' : ∀ k, (X k ∨ w.heap.size ≤ k ∧ k < w4.heap.size) → k < u'.heap.size := fun k hk => hk.elim (fun x => Nat.lt_of_lt_of_le (HD.out.lt k x) (Nat.le_trans HW.out.2.2.size hs4)) (fun x => Nat.lt_of_lt_of_le x.2 hs4)
         have hblk : ∀ k, X k → k ≠ g → u'.heap[k]? = w.heap[k]? := fun k x hk => by
           have hl := HD.out.lt k x
           rw [hch.block k (by rw [HW.out.1, World.size_setCell]; exact Nat.lt_of_lt_of_le hl HW.out.2.2.size) hk, HW.out.1, Below.heap_setCell _ ⟨g, i * 3 + 1, none⟩ _ k hk]
           exact HW.out.2.2.block k hl
         refine ⟨HD.out.turn (u' := u') (f' := f') (by rw [← HNN.out]; exact c1) hgb hXg (by rw [← HNN.out]; exact hcap) HA.out HIF.out (fun k x => .inl x) hX' hblk (fun j o hj ho => ?_) (fun j => ?_) hf' t1 t2 t3, ?_, fun k hk => ⟨hk.imp id (fun x => x.1), hX' k hk⟩⟩
         · rw [hcl j o hj ho, HW.out.1, World.cell?_setCell_other _ _ _ _ (by intro e; injection e with _ e2; omega)]
           exact HW.out.2.2.cell (p := ⟨g, j * 3 + o, none⟩) hgl
         · rw [hfz j, HW.out.1, World.frozen?_setCell]
           exact (HW.out.2.2.frozen (p := ⟨g, j, none⟩) hgl).trans (HFR.out j)
         · refine (Chg.of_below HW.out.2.2 X).trans ((Chg.set w4 ⟨g, i * 3 + 1, none⟩ (.slice a4 m c4) (X := fun k => k = g) rfl).trans (by rw [← HW.out.1]; exact hch) (fun _ _ x => x)) (fun j _ hj => by rw [hj]; exact hXg)
       clear HW HA
       by_cases hgt : m < sf
       · have bs1 : decide ((m : Int) < (sf : Int)) = true := decide_eq_true (by omega)
         have hse : sm = m := by rw [HSM.out]; exact Nat.min_eq_right (by rw [← HSF.out]; omega)
         have R1 := TURN.out (wc.setCell ⟨g, i * 3 + 2, none⟩ (.int .i64 (m : Int))) { f with b := Z, safe := m } (F1.out.nowsafe m) (Chg.set wc ⟨g, i * 3 + 2, none⟩ _ rfl) (fun j o hj ho => World.cell?_setCell_other _ _ _ _ (by intro e; injection e with _ e2; omega)) (fun j => World.frozen?_setCell _ _ _ _) (by show m ≤ Z.length; rw [HZL.out]; exact Nat.le_refl _) HZB.out HNM.out
         have HR1 : Hid (DiskR (wc.setCell ⟨g, i * 3 + 2, none⟩ (.int .i64 (m : Int))) b S' (fun k => X k ∨ w.heap.size ≤ k ∧ k < w4.heap.size) ∧ Did w (wc.setCell ⟨g, i * 3 + 2, none⟩ (.int .i64 (m : Int))) X (fun k => X k ∨ w.heap.size ≤ k ∧ k < w4.heap.size)) := by rw [HS'.out, hse]; exact R1
         clear TURN R1
         go_wp2
         go_ret
         exact ⟨_, rfl, HR1.out.1, HR1.out.2⟩
       · have bs1 : decide ((m : Int) < (sf : Int)) = false := decide_eq_false (by omega)
         have hse : sm = f.safe := by rw [HSM.out]; exact Nat.min_eq_left (by rw [← HSF.out]; omega)
         have R1 := TURN.out wc { f with b := Z } F1.out (Chg.refl _ _) (fun _ _ _ _ => rfl) (fun _ => rfl) (by show f.safe ≤ Z.length; rw [HZL.out, ← HSF.out]; omega) HZB.out HNM.out
         have HR1 : Hid (DiskR wc b S' (fun k => X k ∨ w.heap.size ≤ k ∧ k < w4.heap.size) ∧ Did w wc X (fun k => X k ∨ w.heap.size ≤ k ∧ k < w4.heap.size)) := by rw [HS'.out, hse]; exact R1
         clear TURN R1
         go_wp2
         go_ret
         exact ⟨_, rfl, HR1.out.1, HR1.out.2⟩
  · have e : S.cut s n = (S.err s, S) := by unfold DS.cut; rw [if_neg h0]
    rw [e]
    obtain ⟨E, hE⟩ : ∃ E, E = S.err s := ⟨_, rfl⟩
    obtain ⟨P, hP⟩ : ∃ P, P = S.place s := ⟨_, rfl⟩
    rw [← hE] at h0 CA ⊢
    rw [← hP] at CA
    have hb : (E != 0) = true := by simpa using h0
    have HD : Hid (DiskR w b S X) := h
    clear h e hcode hE hP
    go_enter Try.func45, Try.ntmps45
    go_wp2_with (go_at_call 51; refine CA.out.mono ?_; rintro e wz ⟨rfl, hwz⟩; obtain rfl := hwz.symm; clear hwz)
    go_ret
    exact ⟨X, rfl, HD.out, Did.stay (Below.refl _ _) HD.out.lt⟩
end Go.Proofs.Ytlfmhdljldbjmaa
