/-
  PrepApart: no two that are there are about to write one key, for every list of acts (of more than 40 acts, of more than 20 writes in one, of values of more than 250 bytes the statement asks nothing).
-/
import Derived.Test.YthgkbabikeknlaaRows
import Derived.Test.YthgkbabikeknlaaPrepL3
import Derived.Test.YthgkbabikeknlaaPActs
import Derived.WalkKit
import Derived.ProofKit
import Derived.OpenShut
import Derived.ShutString
import Derived.ChangeOld
import Derived.Below
import Derived.Carry
namespace Go.Proofs.Ythgkbabikeknlaa.prepApart
open Go.ChangeShapes Go.WideShapes Go.ChangeAt Go.RowKit
open Go.ChangeMaps (open_string shut_string)
set_option linter.unusedVariables false

theorem own : ownKnob Try.prog.godebug = none := by kernel_rfl
theorem laidOut : laidOutB Try.prog = true := by kernel_rfl
/-- A slice of integers that came in: nil, or a row of 'cap' cells, of which the first 'len' are its elements. -/
def IsRow (k : IntKind) (w : World) (a : Option Addr) (len cap : Nat) (zs : List Int) : Prop :=
  (a = none ∧ len = 0 ∧ cap = 0 ∧ zs = []) ∨
  ∃ x, a = some x ∧ len ≤ cap ∧ cap ≤ maxLen ∧ zs.length = cap ∧ (∀ i, i < zs.length → w.cell? (x.add i) = some (.int k (zs.getD i 0))) ∧ ∀ n ∈ zs, (Lit.int k n).wf = true

set_option maxRecDepth 20000 in
set_option maxHeartbeats 16000000 in
theorem walk (a0 : Option Addr) (len0 cap0 : Nat) (z0 : List PAct) (w : World) (l0 : z0.length = len0) (w0 : PActsOf w a0 cap0 z0) :
    Calls Try.prog 5 #[.slice a0 len0 cap0] w fun e w' => e = .returned (.bool true) ∧ Below w.heap.size w w' := by
  have AW : Hid (∀ u, Calls Try.prog 6 #[] u fun e w' => e = .returned (.bool true) ∧ Below u.heap.size u w') := fun u => lawakeP_any u
  have HL : Hid (z0.length = len0) := l0
  have HA : Hid (PActsOf w a0 cap0 z0) := w0
  have hcap : len0 ≤ cap0 := by rw [← l0]; exact w0.room
  have CN : Hid (∀ u, Below w.heap.size w u → Calls Try.prog 7 #[] u fun e w' => ∃ p, e = .returned (.pointer (some ⟨p, 0, none⟩)) ∧ PX w w' p []) := fun u hb => (xpnew u).mono fun e w' ⟨p, h1, X, h2, h3, h4⟩ => ⟨p, h1, X, h2, hb.trans (h3.mono hb.size), fun k hk => Nat.le_trans hb.size (h4 k hk)⟩
  clear w0 l0
  by_cases ha : 40 < len0
  · have ba : (40 : Int) < (len0 : Int) := by omega
    go_enter Try.func5, Try.ntmps5
    go_wp2_with (first | (go_at_call 6; refine (AW.out _).mono ?_; rintro e v1 ⟨rfl, hb1⟩; have B1 : Hid (Below w.heap.size w v1) := hb1; clear hb1))
    go_ret
    exact ⟨rfl, B1.out⟩
  · have ba : ¬ (40 : Int) < (len0 : Int) := by omega
    go_enter Try.func5, Try.ntmps5
    go_wp2_with (first | (go_at_call 6; refine (AW.out _).mono ?_; rintro e v1 ⟨rfl, hb1⟩; have B1 : Hid (Below w.heap.size w v1) := hb1; clear hb1) | (have hgo := B1.out; clear hgo; go_at_call 7; refine (CN.out _ B1.out).mono ?_; rintro e v2 ⟨p, rfl, h2⟩; have H2 : Hid (PX w v2 p []) := h2; clear h2 B1))
    clear CN AW
    go_loopw [4] (fun iv wr => ∃ (i : Nat) (M : List EntM), iv = .int .i64 i ∧ i ≤ len0 ∧ Hid (PX w wr p M)) (fun iv _ => len0 - (intOf iv).toNat)
    case atStart => exact ⟨0, [], rfl, Nat.zero_le _, H2⟩
    case round =>
      obtain ⟨i, M, rfl, hi, HC⟩ := hrel
      have h0 : (0 : Int) ≤ (i : Int) := by omega
      have HBW : Hid (Below w.heap.size w wr) := HC.out.below
      by_cases hlt : i < len0
      · have h1 : (i : Int) < (len0 : Int) := by omega
        obtain ⟨y, hy⟩ : ∃ y, z0[i]? = some y := ⟨_, List.getElem?_eq_getElem (by rw [HL.out]; exact hlt)⟩
        obtain ⟨b, off, rfl, hay, hok⟩ := HA.out.act hy
        have HAY : Hid (PActAt wr b (off + i * 7) y) := hay.past HBW.out
        have q0 := HAY.out.c0
        obtain ⟨q1, q5, q6⟩ := HAY.out.ent.cells6
        obtain ⟨N, hN⟩ : ∃ N, N = y.x.e.l.length := ⟨_, rfl⟩
        obtain ⟨ya, hya⟩ : ∃ t, t = y.x.a := ⟨_, rfl⟩
        obtain ⟨yc, hyc⟩ : ∃ t, t = y.x.c := ⟨_, rfl⟩
        obtain ⟨op, hop⟩ : ∃ t, t = y.op := ⟨_, rfl⟩
        obtain ⟨id, hid⟩ : ∃ t, t = y.x.e.id := ⟨_, rfl⟩
        rw [← hN, ← hya, ← hyc] at q5 q6
        rw [← hop] at q0
        rw [← hid] at q1
        have HE : Hid (EntAt wr b (off + i * 7 + 1) y.x) := HAY.out.ent
        have CLG : Hid (Calls Try.prog 17 #[.slice ya N yc] wr fun e w' => e = .returned (.bool (longW y.x.e.l)) ∧ w' = wr) := by rw [hya, hN, hyc]; exact llong_any y.x.a y.x.e.l.length y.x.c y.x.e.l wr rfl hok.wr.room hok.wr.few (hok.wr.at_.past HBW.out)
        obtain ⟨lg, hlg⟩ : ∃ g, g = longW y.x.e.l := ⟨_, rfl⟩
        rw [← hlg] at CLG
        cases lg with
        | true =>
          clear hlg hN hya hyc hop hid hay hok hy
          go_wp2_with (first | (go_at_call 17; refine CLG.out.mono ?_; rintro e v3 ⟨rfl, hv3⟩; obtain rfl := hv3.symm))
          go_ret
          exact ⟨rfl, HBW.out⟩
        | false =>
          have CAD : Hid (Calls Try.prog 8 #[.pointer (some ⟨p, 0, none⟩), ev y.x] wr fun e w' => (∃ z : Int, e = .returned (.int .i64 z)) ∧ ∃ M', Hid (PX w w' p M')) := by
            refine (xpadd HC.out y.x (hok.ent HBW.out hlg.symm)).mono ?_
            rintro e w' ⟨rfl, M', _, h2⟩
            exact ⟨⟨_, rfl⟩, M', h2⟩
          have CDR : Hid (Calls Try.prog 15 #[.pointer (some ⟨p, 0, none⟩), .int .i64 id] wr fun e w' => (∃ (Y : EntM) (g : Bool), e = .returned (.tuple #[ev Y, .bool g])) ∧ ∃ M', Hid (PX w w' p M')) := by
            refine (xpdrop HC.out id).mono ?_
            rintro e w' ⟨rfl, h2⟩
            exact ⟨⟨_, _, rfl⟩, _, h2⟩
          clear hlg hN hya hyc hop hid hay hok hy
          by_cases ho : op = 0
          · have bo : (op == 0) = true := by simp [ho]
            clear ho
            go_wp2_with (first | (go_at_call 17; refine CLG.out.mono ?_; rintro e v3 ⟨rfl, hv3⟩; obtain rfl := hv3.symm) | ((with_reducible show wpList _ _ _ (Oper.mk (some 40) _ _ _ _ _ :: _) _ _); refine wpList_load_pent 40 (by rfl) (by rfl) _ (by rfl) b (off + i * 7 + 1) (by rfl) y.x HE.out ?_) | (go_at_call 8; refine CAD.out.mono ?_; rintro e v4 ⟨⟨z, rfl⟩, M', H4⟩))
            go_roundw
            case rel => exact ⟨i + 1, M', by go_num, by omega, H4⟩
            case measure => simp [intOf]; omega
          · have bo : (op == 0) = false := by simpa using ho
            clear ho
            go_wp2_with (first | (go_at_call 17; refine CLG.out.mono ?_; rintro e v3 ⟨rfl, hv3⟩; obtain rfl := hv3.symm) | (go_at_call 15; refine CDR.out.mono ?_; rintro e v4 ⟨⟨Y, g, rfl⟩, M', H4⟩))
            go_roundw
            case rel => exact ⟨i + 1, M', by go_num, by omega, H4⟩
            case measure => simp [intOf]; omega
      · obtain rfl : i = len0 := by omega
        have CAL : Hid (Calls Try.prog 14 #[.pointer (some ⟨p, 0, none⟩)] wr fun e w' => (∃ a c L N, e = .returned (.slice a N c) ∧ Hid (AllOf w' wr.heap.size (.slice a N c) L (ents M)) ∧ N ≤ 100) ∧ Hid (PX w w' p M)) := by
          refine (xpall HC.out).mono ?_
          rintro e w' ⟨⟨a, c, L, rfl, h2⟩, h3⟩
          have hf := HC.out.tab.few
          rw [List.length_map] at hf
          exact ⟨⟨a, c, L, _, rfl, h2, hf⟩, h3⟩
        go_wp2_with (first | (go_at_call 14; refine CAL.out.mono ?_; rintro e v5 ⟨⟨la, lc, L, N, rfl, HAL, hN100⟩, H5⟩))
        obtain ⟨hNL, hNc, hel⟩ := HAL.out.open
        have HLN : Hid (N = L.length) := hNL
        have HEL : Hid (∀ i y, L[i]? = some y → ∃ g, la = some ⟨g, 0, none⟩ ∧ Hid (∀ v, Below v5.heap.size v5 v → EntAt v g (i * 6) y ∧ EntW v y)) := hel
        have HTK : Hid (TabK (ents M)) := HC.out.tab
        have HIS : Hid (ents L = ents M) := HAL.out.is
        have HB5 : Hid (Below w.heap.size w v5) := H5.out.below
        clear hel hNL CAL HC HBW HAL
        go_loopw [6] (fun iv wr => ∃ i : Nat, iv = .int .i64 i ∧ i ≤ N ∧ Hid (Below v5.heap.size v5 wr)) (fun iv _ => N - (intOf iv).toNat)
        case atStart => exact ⟨0, rfl, Nat.zero_le _, Below.refl _ _⟩
        case round =>
          obtain ⟨i, rfl, hi, HB⟩ := hrel
          have h0 : (0 : Int) ≤ (i : Int) := by omega
          by_cases hlt : i < N
          · have h1 : (i : Int) < (N : Int) := by omega
            obtain ⟨y, hy⟩ : ∃ y, L[i]? = some y := ⟨_, List.getElem?_eq_getElem (by rw [← HLN.out]; exact hlt)⟩
            obtain ⟨g, rfl, HG⟩ := HEL.out i y hy
            have HYI : Hid (L[i]? = some y) := hy
            obtain ⟨id, hid⟩ : ∃ t, t = y.e.id := ⟨_, rfl⟩
            obtain ⟨NW, hNW⟩ : ∃ z, z = y.e.l.length := ⟨_, rfl⟩
            obtain ⟨ya, hya⟩ : ∃ t, t = y.a := ⟨_, rfl⟩
            obtain ⟨yc, hyc⟩ : ∃ t, t = y.c := ⟨_, rfl⟩
            have FY : Hid (∀ v, Below v5.heap.size v5 v → v.cell? ⟨g, i * 6, none⟩ = some (.int .i64 id) ∧ v.cell? ⟨g, i * 6 + 5, none⟩ = some (.slice ya NW yc)) := fun v hv => by
              have hc := (HG.out v hv).1.cells
              rw [hid, hya, hNW, hyc]
              exact ⟨hc.1, hc.2.2.2.2.2⟩
            have hroom : NW ≤ yc := by rw [hNW, hyc]; exact (HG.out v5 (Below.refl _ _)).2.room
            have hfew : NW ≤ 1000000 := by rw [hNW]; exact (HG.out v5 (Below.refl _ _)).2.few
            have HNW : Hid (y.e.l.length = NW) := hNW.symm
            have HYA : Hid (ya = y.a) := hya
            have HID : Hid (id = y.e.id) := hid
            clear hy hid hNW hya hyc
            go_wp2
            go_loopw [7] (fun jv wr => ∃ z : Nat, jv = .int .i64 z ∧ z ≤ NW ∧ Hid (Below v5.heap.size v5 wr)) (fun jv _ => NW - (intOf jv).toNat)
            case atStart => exact ⟨0, rfl, Nat.zero_le _, HB⟩
            case round =>
              obtain ⟨z, rfl, hz, HB2⟩ := hrel
              have hz0 : (0 : Int) ≤ (z : Int) := by omega
              obtain ⟨q0, q5⟩ := FY.out wr HB2.out
              by_cases hzl : z < NW
              · have h2 : (z : Int) < (NW : Int) := by omega
                obtain ⟨W, hW⟩ : ∃ W, y.e.l[z]? = some W := ⟨_, List.getElem?_eq_getElem (by rw [HNW.out]; exact hzl)⟩
                obtain ⟨wb, wo, hwb, hwa, hwo⟩ := (HG.out wr HB2.out).2.wr.wrt hW
                rw [← HYA.out] at hwb
                rw [hwb] at q5
                obtain ⟨f1, f2⟩ := hold_is HTK.out HIS.out HYI.out hW
                rw [← HID.out] at f2
                have CHO : Hid (Calls Try.prog 12 #[.pointer (some ⟨p, 0, none⟩), kv W.k] wr fun e w' => e = .returned (.tuple #[.int .i64 id, .bool true]) ∧ Below wr.heap.size wr w') := by
                  have := xpholderB (H5.out.past HB2.out) W.k hwo.key
                  rw [f1, f2] at this
                  exact this
                obtain ⟨k, hk⟩ : ∃ k, k = W.k := ⟨_, rfl⟩
                rw [← hk] at CHO
                have KY : Hid (Ky k) := by rw [hk]; exact hwo.key
                have FK : Hid (KeyAt wr wb (wo + z * 18) k) := by rw [hk]; exact hwa.key hwo.key
                clear hW hwa hwo f1 f2 hk hwb
                go_wp2_with (first | ((with_reducible show wpList _ _ _ (Oper.mk (some 78) _ _ _ _ _ :: _) _ _); refine wpList_load_keyD 78 (by rfl) (by rfl) _ (by rfl) wb (wo + z * 18) (by rfl) k KY.out FK.out ?_) | (go_at_call 12; refine CHO.out.mono ?_; rintro e v6 ⟨rfl, hb6⟩; have B6 : Hid (Below v5.heap.size v5 v6) := HB2.out.trans (hb6.mono HB2.out.size); obtain ⟨r0, r5⟩ := FY.out v6 B6.out; clear hb6 q0 q5))
                go_roundw
                case rel => exact ⟨z + 1, by go_num, by omega, B6⟩
                case measure => simp [intOf]; omega
              · obtain rfl : z = NW := by omega
                cases i with
                | zero =>
                  go_wp2
                  refine wp_region_noPanic ?_
                  refine wp_region_held_drew (S := fun u => Below wr.heap.size wr u) (by kernel_rfl) ?_ (fun hHeld => ?_)
                  · exact (Below.refl _ _).drew
                  refine wpAnyH_take (i := 0) (v := ?_) rfl (by kernel_rfl) (by kernel_rfl) (by kernel_rfl) (fun _ _ _ h => h) (Or.inl ⟨by rfl, ?_⟩) hHeld ?_
                  rotate_left
                  · intro u hSu
                    (go_simp) <;> (with_reducible rfl)
                  change wpAnyH _ _ _ _ _ _ _ (Act.put _ (some 93) _) _
                  simp only [Act.put, List.setIfInBounds_toArray, List.set_cons_zero, List.set_cons_succ]
                  refine wpAnyH_take (i := 1) (v := ?_) rfl (by kernel_rfl) (by kernel_rfl) (by kernel_rfl) (fun _ _ _ h => h) (Or.inl ⟨by rfl, ?_⟩) hHeld ?_
                  rotate_left
                  · intro u hSu
                    (go_simp) <;> (with_reducible rfl)
                  change wpAnyH _ _ _ _ _ _ _ (Act.put _ (some 94) _) _
                  simp only [Act.put, List.setIfInBounds_toArray, List.set_cons_zero, List.set_cons_succ]
                  refine wpAnyH_take (i := 2) (v := ?_) rfl (by kernel_rfl) (by kernel_rfl) (by kernel_rfl) (fun _ _ _ h => h) (Or.inl ⟨by rfl, ?_⟩) hHeld ?_
                  rotate_left
                  · intro u hSu
                    (go_simp) <;> (with_reducible rfl)
                  change wpAnyH _ _ _ _ _ _ _ (Act.put _ (some 95) _) _
                  simp only [Act.put, List.setIfInBounds_toArray, List.set_cons_zero, List.set_cons_succ]
                  refine wpAnyH_take (i := 3) (v := undef) rfl (by kernel_rfl) (by kernel_rfl) (by kernel_rfl) (fun _ _ _ h => h) (Or.inr ⟨by rfl, rfl⟩) hHeld ?_
                  change wpAnyH _ _ _ _ _ _ _ (Act.put _ (some 96) _) _
                  simp only [Act.put, List.setIfInBounds_toArray, List.set_cons_zero, List.set_cons_succ]
                  refine wpAnyH_take (i := 4) (v := undef) rfl (by kernel_rfl) (by kernel_rfl) (by kernel_rfl) (fun _ _ _ h => h) (Or.inr ⟨by rfl, rfl⟩) hHeld ?_
                  change wpAnyH _ _ _ _ _ _ _ (Act.put _ (some 97) _) _
                  simp only [Act.put, List.setIfInBounds_toArray, List.set_cons_zero, List.set_cons_succ]
                  refine wpAnyH_take (i := 5) (v := undef) rfl (by kernel_rfl) (by kernel_rfl) (by kernel_rfl) (fun _ _ _ h => h) (Or.inr ⟨by rfl, rfl⟩) hHeld ?_
                  change wpAnyH _ _ _ _ _ _ _ (Act.put _ (some 98) _) _
                  simp only [Act.put, List.setIfInBounds_toArray, List.set_cons_zero, List.set_cons_succ]
                  refine wpAnyH_take (i := 6) (v := undef) rfl (by kernel_rfl) (by kernel_rfl) (by kernel_rfl) (fun _ _ _ h => h) (Or.inr ⟨by rfl, rfl⟩) hHeld ?_
                  change wpAnyH _ _ _ _ _ _ _ (Act.put _ (some 99) _) _
                  simp only [Act.put, List.setIfInBounds_toArray, List.set_cons_zero, List.set_cons_succ]
                  refine wpAnyH_take (i := 7) (v := undef) rfl (by kernel_rfl) (by kernel_rfl) (by kernel_rfl) (fun _ _ _ h => h) (Or.inr ⟨by rfl, rfl⟩) hHeld ?_
                  change wpAnyH _ _ _ _ _ _ _ (Act.put _ (some 100) _) _
                  simp only [Act.put, List.setIfInBounds_toArray, List.set_cons_zero, List.set_cons_succ]
                  refine wpAnyH_take (i := 8) (v := undef) rfl (by kernel_rfl) (by kernel_rfl) (by kernel_rfl) (fun _ _ _ h => h) (Or.inr ⟨by rfl, rfl⟩) hHeld ?_
                  change wpAnyH _ _ _ _ _ _ _ (Act.put _ (some 101) _) _
                  simp only [Act.put, List.setIfInBounds_toArray, List.set_cons_zero, List.set_cons_succ]
                  refine wpAnyH_take (i := 9) (v := undef) rfl (by kernel_rfl) (by kernel_rfl) (by kernel_rfl) (fun _ _ _ h => h) (Or.inr ⟨by rfl, rfl⟩) hHeld ?_
                  change wpAnyH _ _ _ _ _ _ _ (Act.put _ (some 102) _) _
                  simp only [Act.put, List.setIfInBounds_toArray, List.set_cons_zero, List.set_cons_succ]
                  refine wpAnyH_take (i := 10) (v := undef) rfl (by kernel_rfl) (by kernel_rfl) (by kernel_rfl) (fun _ _ _ h => h) (Or.inr ⟨by rfl, rfl⟩) hHeld ?_
                  change wpAnyH _ _ _ _ _ _ _ (Act.put _ (some 103) _) _
                  simp only [Act.put, List.setIfInBounds_toArray, List.set_cons_zero, List.set_cons_succ]
                  refine wpAnyH_take (i := 11) (v := undef) rfl (by kernel_rfl) (by kernel_rfl) (by kernel_rfl) (fun _ _ _ h => h) (Or.inr ⟨by rfl, rfl⟩) hHeld ?_
                  change wpAnyH _ _ _ _ _ _ _ (Act.put _ (some 104) _) _
                  simp only [Act.put, List.setIfInBounds_toArray, List.set_cons_zero, List.set_cons_succ]
                  refine wpAnyH_take (i := 12) (v := undef) rfl (by kernel_rfl) (by kernel_rfl) (by kernel_rfl) (fun _ _ _ h => h) (Or.inr ⟨by rfl, rfl⟩) hHeld ?_
                  change wpAnyH _ _ _ _ _ _ _ (Act.put _ (some 105) _) _
                  simp only [Act.put, List.setIfInBounds_toArray, List.set_cons_zero, List.set_cons_succ]
                  refine wpAnyH_take (i := 13) (v := undef) rfl (by kernel_rfl) (by kernel_rfl) (by kernel_rfl) (fun _ _ _ h => h) (Or.inr ⟨by rfl, rfl⟩) hHeld ?_
                  change wpAnyH _ _ _ _ _ _ _ (Act.put _ (some 106) _) _
                  simp only [Act.put, List.setIfInBounds_toArray, List.set_cons_zero, List.set_cons_succ]
                  refine wpAnyH_take (i := 14) (v := undef) rfl (by kernel_rfl) (by kernel_rfl) (by kernel_rfl) (fun _ _ _ h => h) (Or.inr ⟨by rfl, rfl⟩) hHeld ?_
                  change wpAnyH _ _ _ _ _ _ _ (Act.put _ (some 107) _) _
                  simp only [Act.put, List.setIfInBounds_toArray, List.set_cons_zero, List.set_cons_succ]
                  refine wpAnyH_take (i := 15) (v := ?_) rfl (by kernel_rfl) (by kernel_rfl) (by kernel_rfl) (fun _ _ _ h => h) (Or.inl ⟨by rfl, ?_⟩) hHeld ?_
                  rotate_left
                  · intro u hSu
                    (go_simp) <;> (with_reducible rfl)
                  change wpAnyH _ _ _ _ _ _ _ (Act.put _ (some 108) _) _
                  simp only [Act.put, List.setIfInBounds_toArray, List.set_cons_zero, List.set_cons_succ]
                  refine wpAnyH_done (by kernel_rfl) ?_ _
                  refine NoPanic.normal ?_
                  go_wp2
                  go_roundw
                  case rel => exact ⟨1, by go_num, by omega, HB2.out.drew⟩
                  case measure => simp [intOf]; omega
                | succ j =>
                  obtain ⟨y', hy'⟩ : ∃ y', L[j]? = some y' := ⟨_, List.getElem?_eq_getElem (by rw [← HLN.out]; omega)⟩
                  obtain ⟨g', hg', HG'⟩ := HEL.out j y' hy'
                  injection hg' with hg'
                  injection hg' with hg'
                  subst hg'
                  have hup := ids_up HTK.out HIS.out (Nat.lt_succ_self j) hy' HYI.out
                  rw [← HID.out] at hup
                  obtain ⟨id', hid'⟩ : ∃ t, t = y'.e.id := ⟨_, rfl⟩
                  rw [← hid'] at hup
                  have FJ : Hid (∀ v, Below wr.heap.size wr v → v.cell? ⟨g, j * 6, none⟩ = some (.int .i64 id') ∧ v.cell? ⟨g, (j + 1) * 6, none⟩ = some (.int .i64 id)) := fun v hv => by
                    have hb := HB2.out.trans (hv.mono HB2.out.size)
                    rw [hid']
                    exact ⟨(HG'.out v hb).1.cells.1, (FY.out v hb).1⟩
                  have bge : decide (id ≤ id') = false := decide_eq_false (by omega)
                  have hj0 : (0 : Int) ≤ (j : Int) := by omega
                  have hjN : (j : Int) < (N : Int) := by omega
                  have hp1 : (0 : Int) < (j : Int) + 1 := by omega
                  have hj1 : (0 : Int) ≤ (j : Int) + 1 := by omega
                  have hjN1 : (j : Int) + 1 < (N : Int) := by omega
                  have htn : ((j : Int) + 1).toNat = j + 1 := by omega
                  have hwj : IntKind.i64.wrap (j : Int) = (j : Int) := by rw [IntKind.wrap_i64]; omega
                  clear hy' hid' hup
                  go_wp2
                  refine wp_region_noPanic ?_
                  refine wp_region_held_drew (S := fun u => Below wr.heap.size wr u) (by kernel_rfl) ?_ (fun hHeld => ?_)
                  · exact (Below.refl _ _).drew
                  refine wpAnyH_take (i := 0) (v := ?_) rfl (by kernel_rfl) (by kernel_rfl) (by kernel_rfl) (fun _ _ _ h => h) (Or.inl ⟨by rfl, ?_⟩) hHeld ?_
                  rotate_left
                  · intro u hSu
                    (go_simp) <;> (with_reducible rfl)
                  change wpAnyH _ _ _ _ _ _ _ (Act.put _ (some 93) _) _
                  simp only [Act.put, List.setIfInBounds_toArray, List.set_cons_zero, List.set_cons_succ]
                  refine wpAnyH_take (i := 1) (v := ?_) rfl (by kernel_rfl) (by kernel_rfl) (by kernel_rfl) (fun _ _ _ h => h) (Or.inl ⟨by rfl, ?_⟩) hHeld ?_
                  rotate_left
                  · intro u hSu
                    (go_simp) <;> (with_reducible rfl)
                  change wpAnyH _ _ _ _ _ _ _ (Act.put _ (some 94) _) _
                  simp only [Act.put, List.setIfInBounds_toArray, List.set_cons_zero, List.set_cons_succ]
                  refine wpAnyH_take (i := 2) (v := ?_) rfl (by kernel_rfl) (by kernel_rfl) (by kernel_rfl) (fun _ _ _ h => h) (Or.inl ⟨by rfl, ?_⟩) hHeld ?_
                  rotate_left
                  · intro u hSu
                    (go_simp) <;> (with_reducible rfl)
                  change wpAnyH _ _ _ _ _ _ _ (Act.put _ (some 95) _) _
                  simp only [Act.put, List.setIfInBounds_toArray, List.set_cons_zero, List.set_cons_succ]
                  refine wpAnyH_take (i := 3) (v := ?_) rfl (by kernel_rfl) (by kernel_rfl) (by kernel_rfl) (fun _ _ _ h => h) (Or.inl ⟨by rfl, ?_⟩) hHeld ?_
                  rotate_left
                  · intro u hSu
                    (go_simp) <;> (with_reducible rfl)
                  change wpAnyH _ _ _ _ _ _ _ (Act.put _ (some 96) _) _
                  simp only [Act.put, List.setIfInBounds_toArray, List.set_cons_zero, List.set_cons_succ]
                  refine wpAnyH_take (i := 4) (v := ?_) rfl (by kernel_rfl) (by kernel_rfl) (by kernel_rfl) (fun _ _ _ h => h) (Or.inl ⟨by rfl, ?_⟩) hHeld ?_
                  rotate_left
                  · intro u hSu
                    (go_simp) <;> (with_reducible rfl)
                  change wpAnyH _ _ _ _ _ _ _ (Act.put _ (some 97) _) _
                  simp only [Act.put, List.setIfInBounds_toArray, List.set_cons_zero, List.set_cons_succ]
                  refine wpAnyH_take (i := 5) (v := ?_) rfl (by kernel_rfl) (by kernel_rfl) (by kernel_rfl) (fun _ _ _ h => h) (Or.inl ⟨by rfl, ?_⟩) hHeld ?_
                  rotate_left
                  · intro u hSu
                    (go_simp) <;> (with_reducible rfl)
                  change wpAnyH _ _ _ _ _ _ _ (Act.put _ (some 98) _) _
                  simp only [Act.put, List.setIfInBounds_toArray, List.set_cons_zero, List.set_cons_succ]
                  refine wpAnyH_take (i := 6) (v := ?_) rfl (by kernel_rfl) (by kernel_rfl) (by kernel_rfl) (fun _ _ _ h => h) (Or.inl ⟨by rfl, ?_⟩) hHeld ?_
                  rotate_left
                  · intro u hSu
                    (go_simp) <;> (with_reducible rfl)
                  change wpAnyH _ _ _ _ _ _ _ (Act.put _ (some 99) _) _
                  simp only [Act.put, List.setIfInBounds_toArray, List.set_cons_zero, List.set_cons_succ]
                  refine wpAnyH_take (i := 7) (v := ?_) rfl (by kernel_rfl) (by kernel_rfl) (by kernel_rfl) (fun _ _ _ h => h) (Or.inl ⟨by rfl, ?_⟩) hHeld ?_
                  rotate_left
                  · intro u hSu
                    (go_simp) <;> (with_reducible rfl)
                  change wpAnyH _ _ _ _ _ _ _ (Act.put _ (some 100) _) _
                  simp only [Act.put, List.setIfInBounds_toArray, List.set_cons_zero, List.set_cons_succ]
                  refine wpAnyH_take (i := 8) (v := ?_) rfl (by kernel_rfl) (by kernel_rfl) (by kernel_rfl) (fun _ _ _ h => h) (Or.inl ⟨by rfl, ?_⟩) hHeld ?_
                  rotate_left
                  · intro u hSu
                    obtain ⟨r1, r2⟩ := FJ.out u hSu
                    (go_simp) <;> (with_reducible rfl)
                  change wpAnyH _ _ _ _ _ _ _ (Act.put _ (some 101) _) _
                  simp only [Act.put, List.setIfInBounds_toArray, List.set_cons_zero, List.set_cons_succ]
                  refine wpAnyH_take (i := 9) (v := ?_) rfl (by kernel_rfl) (by kernel_rfl) (by kernel_rfl) (fun _ _ _ h => h) (Or.inl ⟨by rfl, ?_⟩) hHeld ?_
                  rotate_left
                  · intro u hSu
                    (go_simp) <;> (with_reducible rfl)
                  change wpAnyH _ _ _ _ _ _ _ (Act.put _ (some 102) _) _
                  simp only [Act.put, List.setIfInBounds_toArray, List.set_cons_zero, List.set_cons_succ]
                  refine wpAnyH_take (i := 10) (v := ?_) rfl (by kernel_rfl) (by kernel_rfl) (by kernel_rfl) (fun _ _ _ h => h) (Or.inl ⟨by rfl, ?_⟩) hHeld ?_
                  rotate_left
                  · intro u hSu
                    (go_simp) <;> (with_reducible rfl)
                  change wpAnyH _ _ _ _ _ _ _ (Act.put _ (some 103) _) _
                  simp only [Act.put, List.setIfInBounds_toArray, List.set_cons_zero, List.set_cons_succ]
                  refine wpAnyH_take (i := 11) (v := ?_) rfl (by kernel_rfl) (by kernel_rfl) (by kernel_rfl) (fun _ _ _ h => h) (Or.inl ⟨by rfl, ?_⟩) hHeld ?_
                  rotate_left
                  · intro u hSu
                    (go_simp) <;> (with_reducible rfl)
                  change wpAnyH _ _ _ _ _ _ _ (Act.put _ (some 104) _) _
                  simp only [Act.put, List.setIfInBounds_toArray, List.set_cons_zero, List.set_cons_succ]
                  refine wpAnyH_take (i := 12) (v := ?_) rfl (by kernel_rfl) (by kernel_rfl) (by kernel_rfl) (fun _ _ _ h => h) (Or.inl ⟨by rfl, ?_⟩) hHeld ?_
                  rotate_left
                  · intro u hSu
                    (go_simp) <;> (with_reducible rfl)
                  change wpAnyH _ _ _ _ _ _ _ (Act.put _ (some 105) _) _
                  simp only [Act.put, List.setIfInBounds_toArray, List.set_cons_zero, List.set_cons_succ]
                  refine wpAnyH_take (i := 13) (v := ?_) rfl (by kernel_rfl) (by kernel_rfl) (by kernel_rfl) (fun _ _ _ h => h) (Or.inl ⟨by rfl, ?_⟩) hHeld ?_
                  rotate_left
                  · intro u hSu
                    obtain ⟨r1, r2⟩ := FJ.out u hSu
                    (go_simp) <;> (with_reducible rfl)
                  change wpAnyH _ _ _ _ _ _ _ (Act.put _ (some 106) _) _
                  simp only [Act.put, List.setIfInBounds_toArray, List.set_cons_zero, List.set_cons_succ]
                  refine wpAnyH_take (i := 14) (v := ?_) rfl (by kernel_rfl) (by kernel_rfl) (by kernel_rfl) (fun _ _ _ h => h) (Or.inl ⟨by rfl, ?_⟩) hHeld ?_
                  rotate_left
                  · intro u hSu
                    (go_simp) <;> (with_reducible rfl)
                  change wpAnyH _ _ _ _ _ _ _ (Act.put _ (some 107) _) _
                  simp only [Act.put, List.setIfInBounds_toArray, List.set_cons_zero, List.set_cons_succ]
                  refine wpAnyH_take (i := 15) (v := ?_) rfl (by kernel_rfl) (by kernel_rfl) (by kernel_rfl) (fun _ _ _ h => h) (Or.inl ⟨by rfl, ?_⟩) hHeld ?_
                  rotate_left
                  · intro u hSu
                    (go_simp) <;> (with_reducible rfl)
                  change wpAnyH _ _ _ _ _ _ _ (Act.put _ (some 108) _) _
                  simp only [Act.put, List.setIfInBounds_toArray, List.set_cons_zero, List.set_cons_succ]
                  refine wpAnyH_done (by kernel_rfl) ?_ _
                  refine NoPanic.normal ?_
                  go_wp2
                  go_roundw
                  case rel => exact ⟨j + 1 + 1, by go_num, by omega, HB2.out.drew⟩
                  case measure => simp [intOf]; omega
          · obtain rfl : i = N := by omega
            go_wp2
            go_ret
            exact ⟨rfl, HB5.out.trans (HB.out.mono HB5.out.size)⟩

set_option maxRecDepth 100000 in
theorem lifted (os : Os) (started : os.Started) (H : Type) (enc : TypeId × Value → H) :
    ReturnsInHanded {} Try.checked os 5 .any (Rows.prepApartSpec.pre6 enc Try.prog Try.f5 Rows.prepApartRow.domain false) (Rows.prepApartSpec.post enc Try.prog Try.f5 false true false false) := by
  refine returnsInHanded_of_change (C := Try.checked) own started (by kernel_rfl) Try.func5
    (ChangeSpec.witness6 (enc := enc) (C := Try.checked) false ⟨#[], #[.slice none 0 0], []⟩ 8 (by kernel_rfl) (by kernel_rfl) (by kernel_rfl) (by kernel_rfl)) ?_
  intro W base args ds gs before hval0 hW hcnd _
  have hval : ∀ (j : Nat) t v, Try.f5.params[j]? = some t → args[j]? = some v → Value.okWide Try.prog W .any base t v := hval0
  have hW' := hW
  obtain ⟨p, q, hA0, hV, rfl, hfz, hnd⟩ := hW
  have hA : DataW.TrodAll enc Try.prog W 0 (fun _ => true) true Try.f5.params.toList args.toList ds p := hA0
  rw [Try.params5] at hA hval
  obtain ⟨v0, vs0, d0, ds0, p0, q0, hargs, rfl, rfl, h0, r0⟩ := trodAll_cons hA
  obtain ⟨rfl, rfl, rfl⟩ := trodAll_nil r0
  obtain rfl : args = #[v0] := by cases args; simp_all
  obtain ⟨rfl, rfl⟩ := trodVars_none hV
  obtain ⟨a0, len0, cap0, rfl⟩ := okWide_slice Try.underlying47 (hval 0 47 v0 rfl rfl)
  have k0 := h0
  have lt0 : ∀ x ∈ p0, x.block < W.heap.size := by obtain ⟨m, hm⟩ := k0; exact DataW.trod_lt m _ _ _ hm
  obtain ⟨z0, l0, w0⟩ : ∃ xs : List PAct, xs.length = len0 ∧ PActsOf W a0 cap0 xs := by
    obtain ⟨fuel, hf⟩ := h0
    exact pacts_open Try.underlying47 Try.underlying53 Try.underlying3 Try.underlying31 Try.underlying2 Try.underlying28 Try.underlying28 Try.underlying2 Try.underlying5 Try.underlying29 Try.underlying46 Try.underlying39 Try.underlying5 Try.underlying9 Try.underlying4 rfl rfl rfl rfl rfl rfl rfl rfl rfl rfl rfl (by kernel_rfl) (by kernel_rfl) (by kernel_rfl) (by kernel_rfl) (by kernel_rfl) (by kernel_rfl) (by kernel_rfl) (by kernel_rfl) (by kernel_rfl) (by kernel_rfl) (by kernel_rfl) (by kernel_rfl) (by kernel_rfl) (by kernel_rfl) hf
  clear hA0 hval0
  refine (walk a0 len0 cap0 z0 W l0 w0).mono fun e W' ⟨he, bel⟩ => ?_
  subst he
  exact ⟨_, rfl, _, _, _, [], _, [], hW', trodAll_mk1 (shut_bool Try.underlying4 _), (trodAll_cons_mk (Below.trod laidOut (by kernel_rfl) (of_decide_eq_true (by kernel_rfl)) k0 bel lt0) trodAll_mk0), rfl, bel.frame _, fun h => by cases h⟩

theorem over : Rows.prepApartRow.holds Try.pinned (OpenSpec.ofChange Rows.prepApartSpec) :=
  OpenClaim.holds_of_wide 5 Try.f5 rfl rfl rfl rfl rfl rfl rfl ⟨rfl, rfl, rfl, rfl, rfl⟩ rfl rfl rfl rfl rfl (by kernel_rfl) Try.func5 (by kernel_rfl)
    (of_decide_eq_true (by kernel_rfl)) (by unfold Func.isWrapper; first | (rw [if_pos (by decide +kernel)]; kernel_rfl) | (rw [if_neg (by decide +kernel)]; exact ⟨rfl, rfl⟩))
    (fun os started H enc _ => lifted os started H enc)
theorem proved : Rows.PrepApartSaid := over
#print axioms proved
end Go.Proofs.Ythgkbabikeknlaa.prepApart
namespace Go.Proofs.Ythgkbabikeknlaa
/-- PrepApart, as given. -/
theorem prepApart_holds : Rows.PrepApartSaid := prepApart.proved
end Go.Proofs.Ythgkbabikeknlaa
