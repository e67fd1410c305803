/-
  FrameOn: frames behind frames are read as all of them, at every two lists of at most 8 records of at most 200 bytes (else the statement asks nothing).
-/
import Derived.Test.YtcagodcmkjdahaaRows
import Derived.Test.YtcagodcmkjdahaaFrameAwake
import Derived.Test.YtcagodcmkjdahaaNested
import Derived.WalkKit
import Derived.ProofKit
import Derived.OpenShut
import Derived.ShutString
import Derived.ChangeOld
import Derived.Below
import Derived.Carry
namespace Go.Proofs.Ytcagodcmkjdahaa.frameOn
open Go.ChangeShapes Go.WideShapes Go.ChangeAt Go.RowKit
open Go.ChangeMaps (open_string shut_string)
set_option linter.unusedVariables false

theorem own : ownKnob Try.prog.godebug = none := by kernel_rfl
theorem laidOut : laidOutB Try.prog = true := by kernel_rfl
/-- A slice of integers that came in: nil, or a row of 'cap' cells, of which the first 'len' are its elements. -/
def IsRow (k : IntKind) (w : World) (a : Option Addr) (len cap : Nat) (zs : List Int) : Prop :=
  (a = none ∧ len = 0 ∧ cap = 0 ∧ zs = []) ∨
  ∃ x, a = some x ∧ len ≤ cap ∧ cap ≤ maxLen ∧ zs.length = cap ∧ (∀ i, i < zs.length → w.cell? (x.add i) = some (.int k (zs.getD i 0))) ∧ ∀ n ∈ zs, (Lit.int k n).wf = true

set_option maxHeartbeats 4000000 in
theorem walk (a0 : Option Addr) (len0 cap0 : Nat) (z0 : List (List Int)) (a1 : Option Addr) (len1 cap1 : Nat) (z1 : List (List Int)) (w : World) (l0 : z0.length = len0) (w0 : RowsOf w a0 cap0 z0) (l1 : z1.length = len1) (w1 : RowsOf w a1 cap1 z1) :
    Calls Try.prog 6 #[.slice a0 len0 cap0, .slice a1 len1 cap1] w fun e w' => e = .returned (.bool true) ∧ Below w.heap.size w w' := by
  by_cases h0 : 8 < len0
  · have h0' : (8 : Int) < (len0 : Int) := by omega
    clear l0 w0 l1 w1
    go_enter Try.func6, Try.ntmps6
    go_wp2_with (go_at_call 7; refine (awake_any _).mono ?_; rintro e w1 ⟨rfl, hb⟩)
    go_ret
    exact ⟨rfl, hb⟩
  by_cases h1 : 8 < len1
  · have h1' : (8 : Int) < (len1 : Int) := by omega
    clear l0 w0 l1 w1
    go_enter Try.func6, Try.ntmps6
    go_wp2_with (go_at_call 7; refine (awake_any _).mono ?_; rintro e w1 ⟨rfl, hb⟩)
    go_ret
    exact ⟨rfl, hb⟩
  have HL0 : Hid (z0.length = len0) := l0
  have HL1 : Hid (z1.length = len1) := l1
  have HR0 : Hid (RowsOf w a0 cap0 z0) := w0
  have HR1 : Hid (RowsOf w a1 cap1 z1) := w1
  clear l0 l1 w0 w1
  go_enter Try.func6, Try.ntmps6
  go_wp2_with (go_at_call 7; refine (awake_any _).mono ?_; rintro e w1 ⟨rfl, hb⟩)
  have HB1 : Hid (Below w.heap.size w w1) := hb
  clear hb
  go_loopw [5, 7] (fun x i wr => ∃ (k n : Nat) (ax : Option Addr) (cx : Nat), k ≤ len0 ∧ i = .int .i64 k ∧ x = .slice ax n cx ∧ n ≤ 212 * k ∧ Hid (wr.ownsRow w1.heap.size 5 1 (.slice ax n cx) n (bs (fr z0 k))) ∧ Hid (By (fr z0 k)) ∧ Hid (∀ r ∈ z0.take k, r.length ≤ 8000) ∧ Hid (Below w1.heap.size w1 wr)) (fun _ i _ => len0 - (intOf i).toNat)
  case atStart => exact ⟨0, 0, none, 0, Nat.zero_le _, rfl, rfl, Nat.le_refl _, ⟨rfl, .inl ⟨rfl, rfl⟩⟩, by intro z hz; simp [fr, frames] at hz, by intro r hr; simp at hr, Below.refl _ _⟩
  case round =>
    obtain ⟨k, n, ax, cx, hk, rfl, rfl, hn, HOWN, HBY, H8, HBW⟩ := hrel
    obtain ⟨wA, rfl⟩ : ∃ wA : World, wA = wr := ⟨wr, rfl⟩
    by_cases hlt : k < len0
    · obtain ⟨b, off, x, m, c, rfl, E⟩ := elem_at HR0.out HB1.out (k := k) (by rw [HL0.out]; exact hlt)
      have HE : Hid _ := E
      have hcell := E.cell wA HBW.out
      clear E
      by_cases hbig : 200 < m
      · have hbig' : (200 : Int) < (m : Int) := by omega
        go_wp2
        go_ret
        exact ⟨rfl, HB1.out.trans (HBW.out.mono HB1.out.size)⟩
      · have hnb : ¬ (200 : Int) < (m : Int) := by omega
        have PUT : Hid (Calls Try.prog 8 #[.slice ax n cx, .slice x m c] wA fun e w' => ∃ ay cy, e = .returned (.tuple #[.slice ay (n + (12 + m)) cy, .int .i64 0]) ∧ w'.ownsRow wA.heap.size 5 1 (.slice ay (n + (12 + m)) cy) (n + (12 + m)) (bs (fr z0 k ++ frameN (z0.getD k []))) ∧ Below wA.heap.size wA w') :=
          put_ok ax cx (fr z0 k) n x c (z0.getD k []) m wA (by have := HOWN.out.1; rw [bs_len] at this; omega) HE.out.len (own_row HOWN.out HBY.out) (HE.out.row wA HBW.out) (own_nil HOWN.out) HE.out.nil (by omega) (by omega)
        have HF : Hid (fr z0 (k + 1) = fr z0 k ++ frameN (z0.getD k [])) := fr_next z0 k (by rw [HL0.out]; exact hlt)
        have H8' : Hid (∀ r ∈ z0.take (k + 1), r.length ≤ 8000) := eight_next H8.out (by rw [HL0.out]; exact hlt) (by rw [HE.out.len]; omega)
        have HBY' : Hid (By (fr z0 (k + 1))) := by rw [HF.out]; exact HBY.out.app (frame_by _ (HE.out.row wA HBW.out).bytes)
        go_wp2_with (go_at_call 8; refine PUT.out.mono ?_; rintro e w2 ⟨ay, cy, rfl, hown2, hb2⟩; have HO2 : Hid _ := hown2; have HB2 : Hid _ := hb2; clear hown2 hb2)
        go_roundw
        case rel => exact ⟨k + 1, n + (12 + m), ay, cy, by omega, by go_num, rfl, by omega, by show World.ownsRow _ _ _ _ _ _ _; rw [HF.out]; exact own_le HO2.out HBW.out.size, HBY'.out, H8'.out, HBW.out.trans (HB2.out.mono HBW.out.size)⟩
        case measure => simp [intOf]; omega
    · obtain rfl : k = len0 := by omega
      have RF : Hid (Row wA ax (frames z0)) := by
        have h := own_row HOWN.out HBY.out
        have e : fr z0 k = frames z0 := by rw [← HL0.out]; exact fr_all z0
        rw [e] at h; exact h
      have NF : Hid (ax = none → n = 0 ∧ cx = 0) := own_nil HOWN.out
      have LF : Hid ((frames z0).length = n) := by
        have h := HOWN.out.1
        rw [bs_len] at h
        have e : fr z0 k = frames z0 := by rw [← HL0.out]; exact fr_all z0
        rw [e] at h
        show _ = _; omega
      have H80 : Hid (∀ r ∈ z0, r.length ≤ 8000) := by
        have h := H8.out
        have e : z0.take k = z0 := by rw [← HL0.out]; exact List.take_length
        rw [e] at h; exact h
      have HBA : Hid (Below w.heap.size w wA) := HB1.out.trans (HBW.out.mono HB1.out.size)
      clear hlt hk HOWN HBY H8 HBW
      go_wp2
      go_loopw [6, 8] (fun x i wr => ∃ (j q : Nat) (ay : Option Addr) (cy : Nat), j ≤ len1 ∧ i = .int .i64 j ∧ x = .slice ay q cy ∧ q ≤ 212 * j ∧ Hid (wr.ownsRow wA.heap.size 5 1 (.slice ay q cy) q (bs (fr z1 j))) ∧ Hid (By (fr z1 j)) ∧ Hid (∀ r ∈ z1.take j, r.length ≤ 8000) ∧ Hid (Below wA.heap.size wA wr)) (fun _ i _ => len1 - (intOf i).toNat)
      case atStart => exact ⟨0, 0, none, 0, Nat.zero_le _, rfl, rfl, Nat.le_refl _, ⟨rfl, .inl ⟨rfl, rfl⟩⟩, by intro z hz; simp [fr, frames] at hz, by intro r hr; simp at hr, Below.refl _ _⟩
      case round =>
        obtain ⟨j, q, ay, cy, hj, rfl, rfl, hq, HOWN, HBY, H8, HBW⟩ := hrel
        obtain ⟨wC, rfl⟩ : ∃ wC : World, wC = wr := ⟨wr, rfl⟩
        by_cases hlt : j < len1
        · obtain ⟨b, off, x, m, c, rfl, E⟩ := elem_at HR1.out HBA.out (k := j) (by rw [HL1.out]; exact hlt)
          have HE : Hid _ := E
          have hcell := E.cell wC HBW.out
          clear E
          by_cases hbig : 200 < m
          · have hbig' : (200 : Int) < (m : Int) := by omega
            go_wp2
            go_ret
            exact ⟨rfl, HBA.out.trans (HBW.out.mono HBA.out.size)⟩
          · have hnb : ¬ (200 : Int) < (m : Int) := by omega
            have PUT : Hid (Calls Try.prog 8 #[.slice ay q cy, .slice x m c] wC fun e w' => ∃ az cz, e = .returned (.tuple #[.slice az (q + (12 + m)) cz, .int .i64 0]) ∧ w'.ownsRow wC.heap.size 5 1 (.slice az (q + (12 + m)) cz) (q + (12 + m)) (bs (fr z1 j ++ frameN (z1.getD j []))) ∧ Below wC.heap.size wC w') :=
              put_ok ay cy (fr z1 j) q x c (z1.getD j []) m wC (by have := HOWN.out.1; rw [bs_len] at this; omega) HE.out.len (own_row HOWN.out HBY.out) (HE.out.row wC HBW.out) (own_nil HOWN.out) HE.out.nil (by omega) (by omega)
            have HF : Hid (fr z1 (j + 1) = fr z1 j ++ frameN (z1.getD j [])) := fr_next z1 j (by rw [HL1.out]; exact hlt)
            have H8' : Hid (∀ r ∈ z1.take (j + 1), r.length ≤ 8000) := eight_next H8.out (by rw [HL1.out]; exact hlt) (by rw [HE.out.len]; omega)
            have HBY' : Hid (By (fr z1 (j + 1))) := by rw [HF.out]; exact HBY.out.app (frame_by _ (HE.out.row wC HBW.out).bytes)
            go_wp2_with (go_at_call 8; refine PUT.out.mono ?_; rintro e w2 ⟨az, cz, rfl, hown2, hb2⟩; have HO2 : Hid _ := hown2; have HB2 : Hid _ := hb2; clear hown2 hb2)
            go_roundw
            case rel => exact ⟨j + 1, q + (12 + m), az, cz, by omega, by go_num, rfl, by omega, by show World.ownsRow _ _ _ _ _ _ _; rw [HF.out]; exact own_le HO2.out HBW.out.size, HBY'.out, H8'.out, HBW.out.trans (HB2.out.mono HBW.out.size)⟩
            case measure => simp [intOf]; omega
        · obtain rfl : j = len1 := by omega
          have e1 : fr z1 j = frames z1 := by rw [← HL1.out]; exact fr_all z1
          have RG : Hid (Row wC ay (frames z1)) := by
            have h := own_row HOWN.out HBY.out
            rw [e1] at h; exact h
          have NG : Hid (ay = none → q = 0 ∧ cy = 0) := own_nil HOWN.out
          have LG : Hid ((frames z1).length = q) := by
            have h := HOWN.out.1
            rw [bs_len, e1] at h
            show _ = _; omega
          have H81 : Hid (∀ r ∈ z1, r.length ≤ 8000) := by
            have h := H8.out
            have e : z1.take j = z1 := by rw [← HL1.out]; exact List.take_length
            rw [e] at h; exact h
          have RF' : Hid (Row wC ax (frames z0)) := RF.out.below HBW.out (Nat.le_refl _)
          have HBC : Hid (Below w.heap.size w wC) := HBA.out.trans (HBW.out.mono HBA.out.size)
          have HSC : Hid (scanN (frames z0 ++ frames z1) = (z0 ++ z1, n + q, true)) := by
            show _ = _
            rw [← frames_app, scan_all _ (fun r hr => (List.mem_append.1 hr).elim (H80.out r) (H81.out r)), frames_app, List.length_append, LF.out, LG.out]
          have HL01 : Hid ((z0 ++ z1).length = k + j) := by show _ = _; rw [List.length_append, HL0.out, HL1.out]
          have hsum : (((n + q : Nat) : Int) == (n : Int) + (q : Int)) = true := by simp
          clear hlt hj HOWN HBY H8 HBW e1 RF
          go_wp2_with (first | (have hgo := HM6.out; clear hgo; go_at_call 12; refine (SAME.out).mono ?_; rintro e w7 ⟨rfl, m7, rfl⟩) | (have hgo := HM5.out; clear hgo; at_builtin; refine wpList_append_rows (by rfl) (.tmp 88) (.tmp 89) rfl w4 _ _ (z0) rfl HM5.out _ _ _ rfl z1 (HR1.out.below HB4W.out (Nat.le_refl _)) HL1.out (by omega) ?_; intro b6 c6 w6 hmix6; have HM6 : Hid (MixRows w4 w6 (.slice b6 (k + j) c6) (k + j) (z0 ++ z1)) := hmix6; have SAME : Hid (Calls Try.prog 12 #[.slice a4 (k + j) c4, .slice b6 (k + j) c6] w6 fun e w' => e = .returned (.bool true) ∧ ∃ m, w' = w6.drewN m) := same_true (HO4.out.rows.below HM6.out.below (Nat.le_refl _)) HM6.out.rows HL01.out (by omega); clear hmix6) | (have hgo := HO4.out; clear hgo; at_builtin; refine wpList_append_rows (by rfl) (.tmp 86) (.tmp 87) rfl w4 _ 0 [] rfl (MixRows.made w4) _ _ _ rfl z0 (HR0.out.below HB4W.out (Nat.le_refl _)) HL0.out (by omega) ?_; intro b5 c5 w5 hmix5; rw [Nat.zero_add, List.nil_append] at hmix5; rw [Nat.zero_add]; have HM5 : Hid _ := hmix5; clear hmix5) | (have hgo := HO3.out; clear hgo; go_at_call 9; refine (scan_as b3 c3 (frames z0 ++ frames z1) (n + q) w3 (by rw [List.length_append, LF.out, LG.out]) (own_row HO3.out (By.app RF'.out.bytes RG.out.bytes)) (own_cap HO3.out) (by omega) HSC.out HL01.out).mono ?_; rintro e w4 ⟨a4, c4, rfl, ho4, hb4⟩; have HO4 : Hid _ := ho4; have HB4W : Hid (Below w.heap.size w w4) := HBC.out.trans ((HB3.out.mono HBC.out.size).trans (hb4.mono (Nat.le_trans HBC.out.size HB3.out.size))); clear ho4 hb4) | (at_builtin; refine wpList_append_on rfl (.tmp 67) (.tmp 68) rfl wC.heap.size wC HB2.out HB2.out.size _ _ (frames z0) (frames z1) rfl HO2.out _ _ _ rfl (RG.out.below HB2.out (Nat.le_refl _)) LG.out NG.out RF'.out.bytes (by omega) ?_; intro b3 c3 w3 hown3 hb3; have HO3 : Hid _ := hown3; have HB3 : Hid _ := hb3; clear hown3 hb3) | (at_builtin; refine wpList_append_new rfl (.tmp 65) (.tmp 66) rfl rfl (frames z0) _ _ _ rfl RF'.out LF.out NF.out (by omega) ?_; intro b2 c2 w2 hown2 hb2; have HO2 : Hid _ := hown2; have HB2 : Hid _ := hb2; clear hown2 hb2))
          go_ret
          exact ⟨rfl, below_drewN (HB4W.out.trans (HM6.out.below.mono HB4W.out.size)) _⟩

set_option maxRecDepth 100000 in
theorem lifted (os : Os) (started : os.Started) (H : Type) (enc : TypeId × Value → H) :
    ReturnsInHanded {} Try.checked os 6 .any (Rows.frameOnSpec.pre6 enc Try.prog Try.f6 Rows.frameOnRow.domain false) (Rows.frameOnSpec.post enc Try.prog Try.f6 false true false false) := by
  refine returnsInHanded_of_change (C := Try.checked) own started (by kernel_rfl) Try.func6
    (ChangeSpec.witness6 (enc := enc) (C := Try.checked) false ⟨#[], #[.slice none 0 0, .slice none 0 0], []⟩ 8 (by kernel_rfl) (by kernel_rfl) (by kernel_rfl) (by kernel_rfl)) ?_
  intro W base args ds gs before hval0 hW hcnd _
  have hval : ∀ (j : Nat) t v, Try.f6.params[j]? = some t → args[j]? = some v → Value.okWide Try.prog W .any base t v := hval0
  have hW' := hW
  obtain ⟨p, q, hA0, hV, rfl, hfz, hnd⟩ := hW
  have hA : DataW.TrodAll enc Try.prog W 0 (fun _ => true) true Try.f6.params.toList args.toList ds p := hA0
  rw [Try.params6] at hA hval
  obtain ⟨v0, vs0, d0, ds0, p0, q0, hargs, rfl, rfl, h0, r0⟩ := trodAll_cons hA
  obtain ⟨v1, vs1, d1, ds1, p1, q1, rfl, rfl, rfl, h1, r1⟩ := trodAll_cons r0
  obtain ⟨rfl, rfl, rfl⟩ := trodAll_nil r1
  obtain rfl : args = #[v0, v1] := by cases args; simp_all
  obtain ⟨rfl, rfl⟩ := trodVars_none hV
  obtain ⟨a0, len0, cap0, rfl⟩ := okWide_slice Try.underlying27 (hval 0 27 v0 rfl rfl)
  have k0 := h0
  have lt0 : ∀ x ∈ p0, x.block < W.heap.size := by obtain ⟨m, hm⟩ := k0; exact DataW.trod_lt m _ _ _ hm
  obtain ⟨z0, l0, w0⟩ : ∃ ls : List (List Int), ls.length = len0 ∧ RowsOf W a0 cap0 ls := by
    obtain ⟨fuel, hf⟩ := h0
    exact rows_open Try.underlying27 Try.underlying23 (by kernel_rfl) (by kernel_rfl) hf
  obtain ⟨a1, len1, cap1, rfl⟩ := okWide_slice Try.underlying27 (hval 1 27 v1 rfl rfl)
  have k1 := h1
  have lt1 : ∀ x ∈ p1, x.block < W.heap.size := by obtain ⟨m, hm⟩ := k1; exact DataW.trod_lt m _ _ _ hm
  obtain ⟨z1, l1, w1⟩ : ∃ ls : List (List Int), ls.length = len1 ∧ RowsOf W a1 cap1 ls := by
    obtain ⟨fuel, hf⟩ := h1
    exact rows_open Try.underlying27 Try.underlying23 (by kernel_rfl) (by kernel_rfl) hf
  clear hA0 hval0
  refine (walk a0 len0 cap0 z0 a1 len1 cap1 z1 W l0 w0 l1 w1).mono fun e W' ⟨he, bel⟩ => ?_
  subst he
  exact ⟨_, rfl, _, _, _, [], _, [], hW', trodAll_mk1 (shut_bool Try.underlying4 _), (trodAll_cons_mk (Below.trod laidOut (by kernel_rfl) (of_decide_eq_true (by kernel_rfl)) k0 bel lt0) (trodAll_cons_mk (Below.trod laidOut (by kernel_rfl) (of_decide_eq_true (by kernel_rfl)) k1 bel lt1) trodAll_mk0)), rfl, bel.frame _, fun h => by cases h⟩

theorem over : Rows.frameOnRow.holds Try.pinned (OpenSpec.ofChange Rows.frameOnSpec) :=
  OpenClaim.holds_of_wide 6 Try.f6 rfl rfl rfl rfl rfl rfl rfl ⟨rfl, rfl, rfl, rfl, rfl⟩ rfl rfl rfl rfl rfl (by kernel_rfl) Try.func6 (by kernel_rfl)
    (of_decide_eq_true (by kernel_rfl)) (by unfold Func.isWrapper; first | (rw [if_pos (by decide +kernel)]; kernel_rfl) | (rw [if_neg (by decide +kernel)]; exact ⟨rfl, rfl⟩))
    (fun os started H enc _ => lifted os started H enc)
theorem proved : Rows.FrameOnSaid := over
#print axioms proved
end Go.Proofs.Ytcagodcmkjdahaa.frameOn
namespace Go.Proofs.Ytcagodcmkjdahaa
/-- FrameOn, as given. -/
theorem frameOn_holds : Rows.FrameOnSaid := frameOn.proved
end Go.Proofs.Ytcagodcmkjdahaa
