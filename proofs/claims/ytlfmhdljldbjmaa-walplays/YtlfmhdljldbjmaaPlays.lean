/-
  WalPlays: all that a log answers is as the document says, for all acts.
-/
import Derived.Test.YtlfmhdljldbjmaaRows
import Derived.Test.YtlfmhdljldbjmaaWalDuo3
import Derived.Test.YtlfmhdljldbjmaaWActs
import Derived.WalkKit
import Derived.ProofKit
import Derived.OpenShut
import Derived.ShutString
import Derived.ChangeOld
import Derived.Below
import Derived.Carry
import Derived.Deep.QuietTactic
import Derived.BigQuiet
import Derived.Deep.DeepCutAuto
import Derived.Deep.CutBlock
import Derived.Deep.RegionHeld3
namespace Go.Proofs.Ytlfmhdljldbjmaa.walPlays
open Go.ChangeShapes Go.WideShapes Go.ChangeAt Go.RowKit
open Go.ChangeMaps (open_string shut_string)
set_option linter.unusedVariables false

theorem own : ownKnob Try.prog.godebug = none := by kernel_rfl
theorem laidOut : laidOutB Try.prog = true := by kernel_rfl
/-- A slice of integers that came in: nil, or a row of 'cap' cells, of which the first 'len' are its elements. -/
def IsRow (k : IntKind) (w : World) (a : Option Addr) (len cap : Nat) (zs : List Int) : Prop :=
  (a = none ∧ len = 0 ∧ cap = 0 ∧ zs = []) ∨
  ∃ x, a = some x ∧ len ≤ cap ∧ cap ≤ maxLen ∧ zs.length = cap ∧ (∀ i, i < zs.length → w.cell? (x.add i) = some (.int k (zs.getD i 0))) ∧ ∀ n ∈ zs, (Lit.int k n).wf = true

set_option maxHeartbeats 16000000 in
set_option maxRecDepth 8000 in
theorem walk (a0 : Int) (a1 : Option Addr) (len1 cap1 : Nat) (z1 : List WAct) (w : World) (w0 : (Lit.int .i64 a0).wf = true) (l1 : z1.length = len1) (w1 : WActsOf w a1 cap1 z1) :
    Calls Try.prog 4 #[.int .i64 a0, .slice a1 len1 cap1] w fun e w' => e = .returned (.bool true) ∧ Below w.heap.size w w' := by
  obtain ⟨r0, r1⟩ := bounds_i64 w0
  clear w0
  have HRW : Hid (WActsOf w a1 cap1 z1) := w1
  have HLN : Hid (z1.length = len1) := l1
  clear w1 l1
  by_cases h64 : a0 < 64
  · have b1 : decide (a0 < 64) = true := decide_eq_true h64
    as_aux_lemma =>
      go_enter Try.func4, Try.ntmps4
      go_wp2_with (go_at_call 9; refine (awake_any _).mono ?_; rintro e w1 ⟨rfl, hb⟩)
      go_ret
      exact ⟨rfl, hb⟩
  have b1 : decide (a0 < 64) = false := decide_eq_false h64
  by_cases h2k : 5000 < a0
  · have b2 : decide (5000 < a0) = true := decide_eq_true h2k
    as_aux_lemma =>
      go_enter Try.func4, Try.ntmps4
      go_wp2_with (go_at_call 9; refine (awake_any _).mono ?_; rintro e w1 ⟨rfl, hb⟩)
      go_ret
      exact ⟨rfl, hb⟩
  have b2 : decide (5000 < a0) = false := decide_eq_false h2k
  by_cases h50 : 50 < len1
  · have b3 : decide ((50 : Int) < (len1 : Int)) = true := decide_eq_true (by omega)
    as_aux_lemma =>
      go_enter Try.func4, Try.ntmps4
      go_wp2_with (go_at_call 9; refine (awake_any _).mono ?_; rintro e w1 ⟨rfl, hb⟩)
      go_ret
      exact ⟨rfl, hb⟩
  have b3 : decide ((50 : Int) < (len1 : Int)) = false := decide_eq_false (by omega)
  have C1 : Hid (∀ u, Below w.heap.size w u → Calls Try.prog 10 #[.int .i64 a0] u fun e w' => ∃ b X, e = .returned (.tuple #[.pointer (some ⟨b, 0, none⟩), .int .i64 0]) ∧ DT w w' b (newDS a0) X) := fun u hb => lt_new w u hb a0 (by omega) (by omega)
  have C2 : Hid (∀ u b X, DT w u b (newDS a0) X → Calls Try.prog 11 #[.pointer (some ⟨b, 0, none⟩), .string ⟨#[108, 111, 103]⟩] (u.alloc (.cells #[.int .i64 a0, .slice none 0 0, .bool false, .int .i64 1] 41)) fun e w' => ∃ p, e = .returned (.tuple #[.pointer (some ⟨p, 0, none⟩), .int .i64 0]) ∧ Half w w' p b u.heap.size a0) := fun u b X h => du_start1 w u b X a0 h (by omega)
  have C3 : Hid (∀ u p b c, Half w u p b c a0 → Calls Try.prog 20 #[.pointer (some ⟨c, 0, none⟩), .string ⟨#[108, 111, 103]⟩] u fun e w' => ∃ q, e = .returned (.tuple #[.pointer (some ⟨q, 0, none⟩), .int .i64 0]) ∧ Duo none w w' p b q c (newDS a0) ⟨logS, 1, false, [], 0⟩ (newDS a0) ⟨logS, 1, false, [], 0⟩ false) := fun u p b c h => du_start2 w u p b c a0 h
  go_enter Try.func4, Try.ntmps4
  go_wp2_with (first | (go_at_call 9; refine (awake_any _).mono ?_; rintro e wa ⟨rfl, hb⟩; have BA : Hid (Below w.heap.size w wa) := hb; clear hb) | (go_at_call 10; refine (C1.out _ BA.out).mono ?_; rintro e w2 ⟨b, X2, rfl, h1⟩; have D2 : Hid (DT w w2 b _ X2) := h1; clear h1) | (go_at_call 11; refine (C2.out _ _ _ D2.out).mono ?_; rintro e w3 ⟨p, rfl, h1⟩; have H3 : Hid (Half w w3 p b w2.heap.size a0) := h1; clear h1) | (go_at_call 20; refine (C3.out _ _ _ _ H3.out).mono ?_; rintro e w4 ⟨q, rfl, h1⟩; have D4 : Hid (Duo none w w4 p b q w2.heap.size (newDS a0) ⟨logS, 1, false, [], 0⟩ (newDS a0) ⟨logS, 1, false, [], 0⟩ false) := h1; clear h1))
  obtain ⟨c, hc⟩ : ∃ c, c = w2.heap.size := ⟨_, rfl⟩
  rw [← hc] at D4 ⊢
  have HST : Hid (∃ S l dn, Duo none w w4 p b q c S l S l dn ∧ Agr S l dn a0 (2 * 0)) := ⟨_, _, _, D4.out, start_agr a0 (by omega)⟩
  have hr : 0 ≤ a0 ∧ a0 ≤ 5000 := ⟨by omega, h2k⟩
  clear C1 C2 C3 D4 H3 D2 BA hc
  go_loopw [8, 10, 12] (fun av bv iv wr => ∃ p q i : Nat, av = .pointer (some ⟨p, 0, none⟩) ∧ bv = .pointer (some ⟨q, 0, none⟩) ∧ iv = .int .i64 i ∧ i ≤ len1 ∧ Hid (∃ S l dn, Duo none w wr p b q c S l S l dn ∧ Agr S l dn a0 (2 * i))) (fun _ _ iv _ => len1 - (intOf iv).toNat)
  case atStart => exact ⟨p, q, 0, rfl, rfl, rfl, Nat.zero_le _, HST.out⟩
  case round =>
    clear HST
    obtain ⟨p, q, i, rfl, rfl, rfl, hi, S, l, dn, hD, hA⟩ := hrel
    by_cases hlt : i < len1
    · obtain ⟨ba, oa, ⟨op, n, y, s, xa, xc, zs, la, lc, LL⟩, rfl, hx⟩ : ∃ ba oa X, a1 = some ⟨ba, oa, none⟩ ∧ WActAt w ba (oa + i * 6) X := by
        have hil : i < z1.length := by rw [HLN.out]; exact hlt
        rcases HRW.out.cells with h' | ⟨ba, oa, h', hc⟩
        · rw [h'] at hil; simp at hil
        · exact ⟨ba, oa, z1[i], h', hc i _ (List.getElem?_eq_getElem hil)⟩
      obtain ⟨m, hm⟩ : ∃ m, m = zs.length := ⟨_, rfl⟩
      obtain ⟨ln, hln⟩ : ∃ ln, ln = LL.length := ⟨_, rfl⟩
      have hbel := hD.below
      have q0 : wr.cell? ⟨ba, oa + i * 6, none⟩ = some (.int .i64 op) := (hbel.cell (p := ⟨ba, oa + i * 6, none⟩) (lt_of_cell hx.c0)).trans hx.c0
      have q1 : wr.cell? ⟨ba, oa + i * 6 + 1, none⟩ = some (.int .i64 n) := (hbel.cell (p := ⟨ba, oa + i * 6 + 1, none⟩) (lt_of_cell hx.c1)).trans hx.c1
      have q2 : wr.cell? ⟨ba, oa + i * 6 + 2, none⟩ = some (.int .u8 y) := (hbel.cell (p := ⟨ba, oa + i * 6 + 2, none⟩) (lt_of_cell hx.c2)).trans hx.c2
      have q3 : wr.cell? ⟨ba, oa + i * 6 + 3, none⟩ = some (.string (strOfNums s)) := (hbel.cell (p := ⟨ba, oa + i * 6 + 3, none⟩) (lt_of_cell hx.c3)).trans hx.c3
      have q4 : wr.cell? ⟨ba, oa + i * 6 + 4, none⟩ = some (.slice xa m xc) := by rw [hm]; exact (hbel.cell (p := ⟨ba, oa + i * 6 + 4, none⟩) (lt_of_cell hx.c4)).trans hx.c4
      have q5 : wr.cell? ⟨ba, oa + i * 6 + 5, none⟩ = some (.slice la ln lc) := by rw [hln]; exact (hbel.cell (p := ⟨ba, oa + i * 6 + 5, none⟩) (lt_of_cell hx.c5)).trans hx.c5
      have HZ : Hid (zs.length = m) := hm.symm
      have HLL : Hid (LL.length = ln) := hln.symm
      have HROW : Hid (Row w xa zs) := hx.row
      have HNIL : Hid (xa = none → m = 0 ∧ xc = 0) := fun e => by have := hx.nil e; exact ⟨by rw [hm, show zs = [] from this.1]; rfl, this.2⟩
      have HRS : Hid (RowsOf w la lc LL) := hx.rows
      have HSB : Hid (By s) := hx.sb
      have HSZ : Hid ((strOfNums s).size = s.length) := strOfNums_size s
      have hyb := hx.yb
      have hnb := hx.bn
      obtain ⟨U, hU⟩ : ∃ U, U = wr.alloc (.cells #[.int .i64 op, .int .i64 n, .int .u8 y, .string (strOfNums s), .slice xa m xc, .slice la ln lc] 47) := ⟨_, rfl⟩
      obtain ⟨xb, hxb⟩ : ∃ xb, xb = wr.heap.size := ⟨_, rfl⟩
      have HDX : Hid (Duo (some (xb, actO op n y s xa m xc la ln lc)) w U p b q c S l S l dn) := by rw [hU, hxb]; exact hD.act op n y s xa m xc la ln lc
      have HA : Hid (Agr S l dn a0 (2 * i)) := hA
      obtain ⟨x0, x1, x2, x3, x4, x5⟩ := HDX.out.actx
      rw [hU, hxb] at x0 x1 x2 x3 x4 x5
      clear hx hm hln hbel hD hA
      by_cases hb1 : 300 < m
      · have d1 : decide ((300 : Int) < (m : Int)) = true := decide_eq_true (by omega)
        as_aux_lemma =>
          go_wp2
          go_ret
          rw [← hU]
          exact ⟨rfl, HDX.out.below⟩
      have d1 : decide ((300 : Int) < (m : Int)) = false := decide_eq_false (by omega)
      by_cases hb2 : 30 < (strOfNums s).size
      · have d2 : decide ((30 : Int) < ((strOfNums s).size : Int)) = true := decide_eq_true (by omega)
        as_aux_lemma =>
          go_wp2
          go_ret
          rw [← hU]
          exact ⟨rfl, HDX.out.below⟩
      have d2 : decide ((30 : Int) < ((strOfNums s).size : Int)) = false := decide_eq_false (by omega)
      by_cases hb3 : 6 < ln
      · have d3 : decide ((6 : Int) < (ln : Int)) = true := decide_eq_true (by omega)
        as_aux_lemma =>
          go_wp2
          go_ret
          rw [← hU]
          exact ⟨rfl, HDX.out.below⟩
      have d3 : decide ((6 : Int) < (ln : Int)) = false := decide_eq_false (by omega)
      go_wp2
      rw [← hU, ← hxb]
      rw [← hU, ← hxb] at x0 x1 x2 x3 x4 x5
      clear hU hxb
      go_loopw [14] (fun kv u => ∃ k : Nat, kv = .int .i64 k ∧ k ≤ ln ∧ u = U ∧ Hid (∀ r ∈ LL.take k, r.length ≤ 200)) (fun kv _ => ln - (intOf kv).toNat)
      case atStart => exact ⟨0, rfl, Nat.zero_le _, rfl, fun r hr => by simp at hr⟩
      case round =>
        obtain ⟨k, rfl, hk, rfl, HT⟩ := hrel
        by_cases hkl : k < ln
        · as_aux_lemma =>
            have hkL : k < LL.length := by rw [HLL.out]; exact hkl
            obtain ⟨rb, ro, rx, rc, hra, hcl, hrx, hnx⟩ := (HRS.out.below HDX.out.below (Nat.le_refl _)).at hkL
            subst hra
            obtain ⟨RS, hRS⟩ : ∃ RS, RS = LL.getD k [] := ⟨_, rfl⟩
            rw [← hRS] at hcl
            have HRK : Hid (LL[k]? = some RS) := by show _ = _; rw [hRS]; simp [List.getD, hkL]
            obtain ⟨rn, hrn⟩ : ∃ rn, rn = RS.length := ⟨_, rfl⟩
            have HRL : Hid (RS.length = rn) := hrn.symm
            rw [← hrn] at hcl
            clear hrx hnx hRS hrn hkL
            have bk : decide ((k : Int) < (ln : Int)) = true := decide_eq_true (by omega)
            by_cases hbig : 200 < rn
            · have bb : decide ((200 : Int) < (rn : Int)) = true := decide_eq_true (by omega)
              go_wp2
              go_ret
              exact ⟨rfl, HDX.out.below⟩
            · have bb : decide ((200 : Int) < (rn : Int)) = false := decide_eq_false (by omega)
              go_wp2
              go_roundw
              case rel =>
                refine ⟨k + 1, by simp, by omega, trivial, fun r hr => ?_⟩
                rw [List.take_add_one, HRK.out] at hr
                rcases List.mem_append.1 hr with hr | hr
                · exact HT.out r hr
                · simp at hr; subst hr; rw [HRL.out]; omega
              case measure => simp [intOf]; omega
        · have bk : decide ((k : Int) < (ln : Int)) = false := decide_eq_false (by omega)
          have hkn : k = ln := by omega
          have HT2 : Hid (∀ r ∈ LL, r.length ≤ 200) := by
            have e : LL.take k = LL := by rw [hkn, ← HLL.out, List.take_length]
            rw [e] at HT; exact HT
          have hi2 : 2 * i ≤ 200 := by omega
          clear HT hkn
          go_upto_block 4 with (fail)
          go_cut [15] (fun okv wx => okv = .bool true ∧ Hid (∃ S l dn, Duo (some (xb, actO op n y s xa m xc la ln lc)) w wx p b q c S l S l dn ∧ Agr S l dn a0 (2 * i + 1)))
          case first =>
            by_cases h0 : op = 0
            · subst h0
              as_aux_lemma =>
                obtain ⟨E, hE⟩ : ∃ E, E = (addL S l LL).1 := ⟨_, rfl⟩
                obtain ⟨S', hS'⟩ : ∃ S', S' = (addL S l LL).2.1 := ⟨_, rfl⟩
                obtain ⟨l', hl'⟩ : ∃ l', l' = (addL S l LL).2.2 := ⟨_, rfl⟩
                obtain ⟨dn', hdn'⟩ : ∃ dn', dn' = (addD S l dn LL).2.2.2 := ⟨_, rfl⟩
                have C1 : Hid (∀ u, Duo (some (xb, actO 0 n y s xa m xc la ln lc)) w u p b q c S l S l dn → Calls Try.prog 12 #[.pointer (some ⟨p, 0, none⟩), .slice la ln lc] u fun e w' => e = .returned (.int .i64 E) ∧ Duo (some (xb, actO 0 n y s xa m xc la ln lc)) w w' p b q c S' l' S l dn) := fun u h => by rw [hE, hS', hl']; exact du_add _ w u p b q c S l S l dn la lc ln LL a0 (2 * i) h HA.out hr hi2 HLL.out (by omega) HRS.out
                have C2 : Hid (∀ u, Duo (some (xb, actO 0 n y s xa m xc la ln lc)) w u p b q c S' l' S l dn → Calls Try.prog 21 #[.pointer (some ⟨q, 0, none⟩), .slice la ln lc] u fun e w' => e = .returned (.int .i64 E) ∧ Duo (some (xb, actO 0 n y s xa m xc la ln lc)) w w' p b q c S' l' S' l' dn') := fun u h => by rw [hE, hS', hl', hdn']; rw [hS', hl'] at h; exact du_radd _ w u p b q c S l _ _ dn la lc ln LL a0 (2 * i) h HA.out hr hi2 HLL.out (by omega) HRS.out
                have HA2 : Hid (Agr S' l' dn' a0 (2 * i + 1)) := by rw [hS', hl', hdn']; exact add_agr HA.out LL (by rw [HLL.out]; omega)
                have KS : Hid (∀ {u : World} {T1 T2 : DS} {m1 m2 : LS} {d : Bool}, Duo (some (xb, actO 0 n y s xa m xc la ln lc)) w u p b q c T1 m1 T2 m2 d → u.cell? ⟨xb, 5, none⟩ = some (.slice la ln lc)) := fun h => h.actx.c5
                have B0d : Hid (Duo (some (xb, actO 0 n y s xa m xc la ln lc)) w wr.drew p b q c S l S l dn) := HDX.out.past (Below.refl _ _).drew
                clear hE hS' hl' hdn'
                go_wp2
                go_region_held3 (fun u => u.cell? ⟨xb, 5, none⟩ = some (.slice la ln lc)) (first | exact KS.out B4.out | exact KS.out B3.out | exact KS.out B0d.out | exact KS.out HDX.out) (first | (go_at_call 21; refine (C2.out _ B3.out).mono ?_; rintro e v4 ⟨rfl, hb4⟩; have B4 : Hid _ := hb4; clear hb4) | (go_at_call 12; refine (C1.out _ (by first | exact B0d.out | exact HDX.out)).mono ?_; rintro e v3 ⟨rfl, hb3⟩; have B3 : Hid _ := hb3; clear hb3))
                all_goals
                  go_wp2
                  go_meet
                  case rel => exact ⟨by simp, S', l', dn', B4.out, HA2.out⟩
            have e0 : (op == 0) = false := by simpa using h0
            by_cases h1 : op = 1
            · subst h1
              as_aux_lemma =>
                obtain ⟨E, hE⟩ : ∃ E, E = (syncL S l).1 := ⟨_, rfl⟩
                obtain ⟨S', hS'⟩ : ∃ S', S' = (syncL S l).2.1 := ⟨_, rfl⟩
                obtain ⟨l', hl'⟩ : ∃ l', l' = (syncL S l).2.2 := ⟨_, rfl⟩
                obtain ⟨dn', hdn'⟩ : ∃ dn', dn' = doneN S l dn := ⟨_, rfl⟩
                have C1 : Hid (∀ u, Duo (some (xb, actO 1 n y s xa m xc la ln lc)) w u p b q c S l S l dn → Calls Try.prog 17 #[.pointer (some ⟨p, 0, none⟩)] u fun e w' => e = .returned (.int .i64 E) ∧ Duo (some (xb, actO 1 n y s xa m xc la ln lc)) w w' p b q c S' l' S l dn) := fun u h => by rw [hE, hS', hl']; exact du_sync _ w u p b q c S l S l dn h
                have C2 : Hid (∀ u, Duo (some (xb, actO 1 n y s xa m xc la ln lc)) w u p b q c S' l' S l dn → Calls Try.prog 22 #[.pointer (some ⟨q, 0, none⟩)] u fun e w' => e = .returned (.int .i64 E) ∧ Duo (some (xb, actO 1 n y s xa m xc la ln lc)) w w' p b q c S' l' S' l' dn') := fun u h => by rw [hE, hS', hl', hdn']; rw [hS', hl'] at h; exact du_rsync _ w u p b q c S l _ _ dn a0 (2 * i) h HA.out
                have HA2 : Hid (Agr S' l' dn' a0 (2 * i + 1)) := by rw [hS', hl', hdn']; exact (sync_agr HA.out).mono (Nat.le_succ _)
                clear hE hS' hl' hdn'
                go_wp2_with (first | (go_at_call 22; refine (C2.out _ B3.out).mono ?_; rintro e v4 ⟨rfl, hb4⟩; have B4 : Hid _ := hb4; clear hb4) | (go_at_call 17; refine (C1.out _ HDX.out).mono ?_; rintro e v3 ⟨rfl, hb3⟩; have B3 : Hid _ := hb3; clear hb3))
                go_meet
                case rel => exact ⟨by simp, S', l', dn', B4.out, HA2.out⟩
            have e1 : (op == 1) = false := by simpa using h1
            by_cases h2 : op = 2
            · subst h2
              as_aux_lemma =>
                obtain ⟨E, hE⟩ : ∃ E, E = (clearL S l).1 := ⟨_, rfl⟩
                obtain ⟨S', hS'⟩ : ∃ S', S' = (clearL S l).2.1 := ⟨_, rfl⟩
                obtain ⟨l', hl'⟩ : ∃ l', l' = (clearL S l).2.2 := ⟨_, rfl⟩
                obtain ⟨dn', hdn'⟩ : ∃ dn', dn' = doneN S l dn := ⟨_, rfl⟩
                have C1 : Hid (∀ u, Duo (some (xb, actO 2 n y s xa m xc la ln lc)) w u p b q c S l S l dn → Calls Try.prog 15 #[.pointer (some ⟨p, 0, none⟩)] u fun e w' => e = .returned (.int .i64 E) ∧ Duo (some (xb, actO 2 n y s xa m xc la ln lc)) w w' p b q c S' l' S l dn) := fun u h => by rw [hE, hS', hl']; exact du_clear _ w u p b q c S l S l dn a0 (2 * i) h HA.out hr.2
                have C2 : Hid (∀ u, Duo (some (xb, actO 2 n y s xa m xc la ln lc)) w u p b q c S' l' S l dn → Calls Try.prog 23 #[.pointer (some ⟨q, 0, none⟩)] u fun e w' => e = .returned (.int .i64 E) ∧ Duo (some (xb, actO 2 n y s xa m xc la ln lc)) w w' p b q c S' l' S' l' dn') := fun u h => by rw [hE, hS', hl', hdn']; rw [hS', hl'] at h; exact du_rclear _ w u p b q c S l _ _ dn a0 (2 * i) h HA.out hr.2
                have HA2 : Hid (Agr S' l' dn' a0 (2 * i + 1)) := by rw [hS', hl', hdn']; exact (clear_agr HA.out).mono (Nat.le_succ _)
                clear hE hS' hl' hdn'
                go_wp2_with (first | (go_at_call 23; refine (C2.out _ B3.out).mono ?_; rintro e v4 ⟨rfl, hb4⟩; have B4 : Hid _ := hb4; clear hb4) | (go_at_call 15; refine (C1.out _ HDX.out).mono ?_; rintro e v3 ⟨rfl, hb3⟩; have B3 : Hid _ := hb3; clear hb3))
                go_meet
                case rel => exact ⟨by simp, S', l', dn', B4.out, HA2.out⟩
            have e2 : (op == 2) = false := by simpa using h2
            by_cases h3 : op = 3
            · subst h3
              as_aux_lemma =>
                obtain ⟨S', hS'⟩ : ∃ S', S' = S.crash n y := ⟨_, rfl⟩
                have C1 : Hid (∀ u, Duo (some (xb, actO 3 n y s xa m xc la ln lc)) w u p b q c S l S l dn → Calls Try.prog 16 #[.pointer (some ⟨b, 0, none⟩), .int .i64 n, .int .u8 y] u fun e w' => e = .returned (.tuple #[]) ∧ Duo (some (xb, actO 3 n y s xa m xc la ln lc)) w w' p b q c S' l S l dn ∧ ActX w' xb 3 n y s xa m xc la ln lc) := fun u h => by rw [hS']; exact (du_crash _ w u p b q c S l S l dn n y a0 (2 * i) h HA.out hr.2 hnb.1 hnb.2 hyb).mono (by rintro e w' ⟨rfl, h1⟩; exact ⟨rfl, h1, h1.actx⟩)
                have C2 : Hid (∀ u, Duo (some (xb, actO 3 n y s xa m xc la ln lc)) w u p b q c S' l S l dn → Calls Try.prog 24 #[.pointer (some ⟨c, 0, none⟩), .int .i64 n, .int .u8 y] u fun e w' => e = .returned (.tuple #[]) ∧ Duo (some (xb, actO 3 n y s xa m xc la ln lc)) w w' p b q c S' l S' l dn) := fun u h => by rw [hS']; rw [hS'] at h; exact du_rcrash _ w u p b q c S l _ _ dn n y a0 (2 * i) h HA.out hr.2 hnb.1 hnb.2 hyb
                have HA2 : Hid (Agr S' l dn a0 (2 * i + 1)) := by rw [hS']; exact (crash_agr HA.out HDX.out.agr_good n y).mono (Nat.le_succ _)
                clear hS'
                go_wp2_with (first | (go_at_call 24; refine (C2.out _ B3.out).mono ?_; rintro e v4 ⟨rfl, hb4⟩; have B4 : Hid _ := hb4; clear hb4) | (go_at_call 16; refine (C1.out _ HDX.out).mono ?_; rintro e v3 ⟨rfl, hb3, hx3⟩; have B3 : Hid _ := hb3; obtain ⟨_, y1, y2, _, _, _⟩ := hx3; clear hb3))
                go_meet
                case rel => exact ⟨rfl, S', l, dn, B4.out, HA2.out⟩
            have e3 : (op == 3) = false := by simpa using h3
            by_cases h4 : op = 4
            · subst h4
              as_aux_lemma =>
                obtain ⟨S', hS'⟩ : ∃ S', S' = S.crash n y := ⟨_, rfl⟩
                have C1 : Hid (∀ u, Duo (some (xb, actO 4 n y s xa m xc la ln lc)) w u p b q c S l S l dn → Calls Try.prog 16 #[.pointer (some ⟨b, 0, none⟩), .int .i64 n, .int .u8 y] u fun e w' => e = .returned (.tuple #[]) ∧ Duo (some (xb, actO 4 n y s xa m xc la ln lc)) w w' p b q c S' l S l dn ∧ ActX w' xb 4 n y s xa m xc la ln lc) := fun u h => by rw [hS']; exact (du_crash _ w u p b q c S l S l dn n y a0 (2 * i) h HA.out hr.2 hnb.1 hnb.2 hyb).mono (by rintro e w' ⟨rfl, h1⟩; exact ⟨rfl, h1, h1.actx⟩)
                have C2 : Hid (∀ u, Duo (some (xb, actO 4 n y s xa m xc la ln lc)) w u p b q c S' l S l dn → Calls Try.prog 24 #[.pointer (some ⟨c, 0, none⟩), .int .i64 n, .int .u8 y] u fun e w' => e = .returned (.tuple #[]) ∧ Duo (some (xb, actO 4 n y s xa m xc la ln lc)) w w' p b q c S' l S' l dn) := fun u h => by rw [hS']; rw [hS'] at h; exact du_rcrash _ w u p b q c S l _ _ dn n y a0 (2 * i) h HA.out hr.2 hnb.1 hnb.2 hyb
                have HA2 : Hid (Agr S' l dn a0 (2 * i + 1)) := by rw [hS']; exact (crash_agr HA.out HDX.out.agr_good n y).mono (Nat.le_succ _)
                clear hS'
                go_wp2_with (first | (go_at_call 24; refine (C2.out _ B3.out).mono ?_; rintro e v4 ⟨rfl, hb4⟩; have B4 : Hid _ := hb4; clear hb4) | (go_at_call 16; refine (C1.out _ HDX.out).mono ?_; rintro e v3 ⟨rfl, hb3, hx3⟩; have B3 : Hid _ := hb3; obtain ⟨_, y1, y2, _, _, _⟩ := hx3; clear hb3))
                go_meet
                case rel => exact ⟨rfl, S', l, dn, B4.out, HA2.out⟩
            have e4 : (op == 4) = false := by simpa using h4
            by_cases h5 : op = 5
            · subst h5
              as_aux_lemma =>
                obtain ⟨S', hS'⟩ : ∃ S', S' = S.on := ⟨_, rfl⟩
                have C1 : Hid (∀ u, Duo (some (xb, actO 5 n y s xa m xc la ln lc)) w u p b q c S l S l dn → Calls Try.prog 18 #[.pointer (some ⟨b, 0, none⟩)] u fun e w' => e = .returned (.tuple #[]) ∧ Duo (some (xb, actO 5 n y s xa m xc la ln lc)) w w' p b q c S' l S l dn) := fun u h => by rw [hS']; exact du_on _ w u p b q c S l S l dn a0 (2 * i) h HA.out hi2
                have C2 : Hid (∀ u, Duo (some (xb, actO 5 n y s xa m xc la ln lc)) w u p b q c S' l S l dn → Calls Try.prog 25 #[.pointer (some ⟨c, 0, none⟩)] u fun e w' => e = .returned (.tuple #[]) ∧ Duo (some (xb, actO 5 n y s xa m xc la ln lc)) w w' p b q c S' l S' l dn) := fun u h => by rw [hS']; rw [hS'] at h; exact du_ron _ w u p b q c S l _ _ dn a0 (2 * i) h HA.out hi2
                have HA2 : Hid (Agr S' l dn a0 (2 * i + 1)) := by rw [hS']; exact on_agr HA.out
                clear hS'
                go_wp2_with (first | (go_at_call 25; refine (C2.out _ B3.out).mono ?_; rintro e v4 ⟨rfl, hb4⟩; have B4 : Hid _ := hb4; clear hb4) | (go_at_call 18; refine (C1.out _ HDX.out).mono ?_; rintro e v3 ⟨rfl, hb3⟩; have B3 : Hid _ := hb3; clear hb3))
                go_meet
                case rel => exact ⟨rfl, S', l, dn, B4.out, HA2.out⟩
            have e5 : (op == 5) = false := by simpa using h5
            by_cases h7 : op = 7
            · subst h7
              as_aux_lemma =>
                obtain ⟨E, hE⟩ : ∃ E, E = (S.append s zs).1 := ⟨_, rfl⟩
                obtain ⟨S', hS'⟩ : ∃ S', S' = (S.append s zs).2 := ⟨_, rfl⟩
                have hsl : s.length ≤ 1000 := by have := HSZ.out; omega
                have C1 : Hid (∀ u, Duo (some (xb, actO 7 n y s xa m xc la ln lc)) w u p b q c S l S l dn → Calls Try.prog 26 #[.pointer (some ⟨b, 0, none⟩), .string (strOfNums s), .slice xa m xc] u fun e w' => e = .returned (.int .i64 E) ∧ Duo (some (xb, actO 7 n y s xa m xc la ln lc)) w w' p b q c S' l S l dn) := fun u h => by rw [hE, hS']; exact du_append _ w u p b q c S l S l dn s zs xa xc m a0 (2 * i) h HA.out hr hi2 HSB.out hsl HZ.out (by omega) HROW.out HNIL.out
                have C2 : Hid (∀ u, Duo (some (xb, actO 7 n y s xa m xc la ln lc)) w u p b q c S' l S l dn → Calls Try.prog 27 #[.pointer (some ⟨c, 0, none⟩), .string (strOfNums s), .slice xa m xc] u fun e w' => e = .returned (.int .i64 E) ∧ Duo (some (xb, actO 7 n y s xa m xc la ln lc)) w w' p b q c S' l S' l dn) := fun u h => by rw [hE, hS']; rw [hS'] at h; exact du_rappend _ w u p b q c S l _ _ dn s zs xa xc m a0 (2 * i) h HA.out hr hi2 HSB.out hsl HZ.out (by omega) HROW.out HNIL.out
                have HA2 : Hid (Agr S' l dn a0 (2 * i + 1)) := by rw [hS']; exact append_agr HA.out s zs
                have KS : Hid (∀ {u : World} {T1 T2 : DS} {m1 m2 : LS} {d : Bool}, Duo (some (xb, actO 7 n y s xa m xc la ln lc)) w u p b q c T1 m1 T2 m2 d → u.cell? ⟨xb, 3, none⟩ = some (.string (strOfNums s)) ∧ u.cell? ⟨xb, 4, none⟩ = some (.slice xa m xc)) := fun h => ⟨h.actx.c3, h.actx.c4⟩
                have B0d : Hid (Duo (some (xb, actO 7 n y s xa m xc la ln lc)) w wr.drew p b q c S l S l dn) := HDX.out.past (Below.refl _ _).drew
                clear hE hS' hsl
                go_wp2
                go_region_held3 (fun u => u.cell? ⟨xb, 3, none⟩ = some (.string (strOfNums s)) ∧ u.cell? ⟨xb, 4, none⟩ = some (.slice xa m xc)) (first | exact KS.out B4.out | exact KS.out B3.out | exact KS.out B0d.out | exact KS.out HDX.out) (first | (go_at_call 27; refine (C2.out _ B3.out).mono ?_; rintro e v4 ⟨rfl, hb4⟩; have B4 : Hid _ := hb4; clear hb4) | (go_at_call 26; refine (C1.out _ (by first | exact B0d.out | exact HDX.out)).mono ?_; rintro e v3 ⟨rfl, hb3⟩; have B3 : Hid _ := hb3; clear hb3))
                all_goals
                  go_wp2
                  go_meet
                  case rel => exact ⟨by simp, S', l, dn, B4.out, HA2.out⟩
            have e7 : (op == 7) = false := by simpa using h7
            as_aux_lemma =>
              go_wp2
              go_meet
              case rel => exact ⟨rfl, S, l, dn, HDX.out, HA.out.mono (Nat.le_succ _)⟩
          case rest =>
            clear x0 x1 x2 x3 x4 x5 HDX HA HT2 HRS HLL HROW HNIL HZ HSB HSZ hyb hnb hb1 hb2 hb3 d1 d2 d3 bk hkl
            obtain ⟨rfl, HC⟩ := hcut
            obtain ⟨S, l, dn, hD, hA⟩ := HC
            have HD : Hid (Duo (some (xb, actO op n y s xa m xc la ln lc)) w wc p b q c S l S l dn) := hD
            have HA : Hid (Agr S l dn a0 (2 * i + 1)) := hA
            have x0 := hD.actx.c0
            clear hD hA
            go_upto_if 171 with (fail)
            go_cut [15] (fun okv wx => okv = .bool true ∧ Hid (∃ S l dn, Duo (some (xb, actO op n y s xa m xc la ln lc)) w wx p b q c S l S l dn ∧ Agr S l dn a0 (2 * i + 2) ∧ (op = 3 → S.off = false)))
            case first =>
              as_aux_lemma =>
                by_cases h3 : op = 3
                · subst h3
                  have C1 : Hid (∀ u, Duo (some (xb, actO 3 n y s xa m xc la ln lc)) w u p b q c S l S l dn → Calls Try.prog 18 #[.pointer (some ⟨b, 0, none⟩)] u fun e w' => e = .returned (.tuple #[]) ∧ Duo (some (xb, actO 3 n y s xa m xc la ln lc)) w w' p b q c S.on l S l dn) := fun u h => du_on _ w u p b q c S l S l dn a0 (2 * i + 1) h HA.out (by omega)
                  have C2 : Hid (∀ u, Duo (some (xb, actO 3 n y s xa m xc la ln lc)) w u p b q c S.on l S l dn → Calls Try.prog 25 #[.pointer (some ⟨c, 0, none⟩)] u fun e w' => e = .returned (.tuple #[]) ∧ Duo (some (xb, actO 3 n y s xa m xc la ln lc)) w w' p b q c S.on l S.on l dn) := fun u h => du_ron _ w u p b q c S l _ _ dn a0 (2 * i + 1) h HA.out (by omega)
                  have HA2 : Hid (Agr S.on l dn a0 (2 * i + 2)) := on_agr HA.out
                  go_wp2_with (first | (go_at_call 25; refine (C2.out _ B3.out).mono ?_; rintro e v4 ⟨rfl, hb4⟩; have B4 : Hid _ := hb4; clear hb4) | (go_at_call 18; refine (C1.out _ HD.out).mono ?_; rintro e v3 ⟨rfl, hb3⟩; have B3 : Hid _ := hb3; clear hb3))
                  go_meet
                  case rel => exact ⟨rfl, S.on, l, dn, B4.out, HA2.out, fun _ => rfl⟩
                · have e3 : (op == 3) = false := by simpa using h3
                  go_wp2
                  go_meet
                  case rel => exact ⟨rfl, S, l, dn, HD.out, HA.out.mono (Nat.le_succ _), fun e => absurd e h3⟩
            case rest =>
              clear x0 HD HA S l dn
              obtain ⟨rfl, S, l, dn, hD, hA, hof⟩ := hcut
              have HD : Hid (Duo (some (xb, actO op n y s xa m xc la ln lc)) w wc p b q c S l S l dn) := hD
              have HA : Hid (Agr S l dn a0 (2 * i + 2)) := hA
              have HOF : Hid (op = 3 → S.off = false) := hof
              have x0 := hD.actx.c0
              clear hD hA hof
              obtain ⟨tb, htb⟩ : ∃ tb : Bool, tb = decide (op = 3 ∨ op = 6) := ⟨_, rfl⟩
              have HTB : Hid (tb = decide (op = 3 ∨ op = 6)) := htb
              clear htb
              go_upto_region 42 with (fail)
              go_cut [15, 183] (fun okv tv wx => okv = .bool true ∧ tv = .bool tb ∧ wx = wc)
              case first =>
                as_aux_lemma =>
                  by_cases h3 : op = 3
                  · subst h3
                    go_wp2
                    go_meet
                    case rel => exact ⟨rfl, by rw [HTB.out]; simp, rfl⟩
                  · have e3 : (op == 3) = false := by simpa using h3
                    by_cases h6 : op = 6
                    · subst h6
                      go_wp2
                      go_meet
                      case rel => exact ⟨rfl, by rw [HTB.out]; simp, rfl⟩
                    · have e6 : (op == 6) = false := by simpa using h6
                      go_wp2
                      go_meet
                      case rel => exact ⟨rfl, by rw [HTB.out]; simp [h3, h6], rfl⟩
              case rest =>
                obtain ⟨rfl, rfl, rfl⟩ := hcut
                go_upto_if 183 with (fail)
                go_cut [15, 8, 10] (fun okv av bv wx => okv = .bool true ∧ ∃ p q : Nat, av = .pointer (some ⟨p, 0, none⟩) ∧ bv = .pointer (some ⟨q, 0, none⟩) ∧ Hid (∃ S l dn, Duo (some (xb, actO op n y s xa m xc la ln lc)) w wx p b q c S l S l dn ∧ Agr S l dn a0 (2 * i + 2)))
                case first =>
                  as_aux_lemma =>
                    cases tb with
                    | true =>
                      cases hof : S.off with
                      | false =>
                        have C1 : Hid (∀ u, Duo (some (xb, actO op n y s xa m xc la ln lc)) w u p b q c S l S l dn → Calls Try.prog 11 #[.pointer (some ⟨b, 0, none⟩), .string ⟨#[108, 111, 103]⟩] u fun e w' => ∃ p', e = .returned (.tuple #[.pointer (some ⟨p', 0, none⟩), .int .i64 0]) ∧ Duo (some (xb, actO op n y s xa m xc la ln lc)) w w' p' b q c (S.opened logS) (S.log logS) S l dn) := fun u h => du_open _ w u p b q c S l S l dn a0 (2 * i + 2) h HA.out hr.2 hof
                        have C2 : Hid (∀ u p', Duo (some (xb, actO op n y s xa m xc la ln lc)) w u p' b q c (S.opened logS) (S.log logS) S l dn → Calls Try.prog 20 #[.pointer (some ⟨c, 0, none⟩), .string ⟨#[108, 111, 103]⟩] u fun e w' => ∃ q', e = .returned (.tuple #[.pointer (some ⟨q', 0, none⟩), .int .i64 0]) ∧ Duo (some (xb, actO op n y s xa m xc la ln lc)) w w' p' b q' c (S.opened logS) (S.log logS) (S.opened logS) (S.log logS) false) := fun u p' h => du_ropen _ w u p' b q c S l _ _ dn a0 (2 * i + 2) h HA.out hr.2 hof
                        have HA2 : Hid (Agr (S.opened logS) (S.log logS) false a0 (2 * i + 2)) := open_agr HD.out.agr_good HA.out.rm HA.out.size hr.2 HA.out.few HA.out.l0 HA.out.li
                        clear hof
                        go_wp2_with (first | (go_at_call 20; refine (C2.out _ _ B3.out).mono ?_; rintro e v4 ⟨q', rfl, hb4⟩; have B4 : Hid _ := hb4; clear hb4) | (go_at_call 11; refine (C1.out _ HD.out).mono ?_; rintro e v3 ⟨p', rfl, hb3⟩; have B3 : Hid _ := hb3; clear hb3))
                        go_meet
                        case rel => exact ⟨rfl, p', q', rfl, rfl, _, _, _, B4.out, HA2.out⟩
                      | true =>
                        have C1 : Hid (∀ u, Duo (some (xb, actO op n y s xa m xc la ln lc)) w u p b q c S l S l dn → Calls Try.prog 11 #[.pointer (some ⟨b, 0, none⟩), .string ⟨#[108, 111, 103]⟩] u fun e w' => e = .returned (.tuple #[.pointer none, .int .i64 7]) ∧ Duo (some (xb, actO op n y s xa m xc la ln lc)) w w' p b q c S l S l dn) := fun u h => du_openoff _ w u p b q c S l S l dn h HA.out.lv hof
                        have C2 : Hid (∀ u, Duo (some (xb, actO op n y s xa m xc la ln lc)) w u p b q c S l S l dn → Calls Try.prog 20 #[.pointer (some ⟨c, 0, none⟩), .string ⟨#[108, 111, 103]⟩] u fun e w' => e = .returned (.tuple #[.pointer none, .int .i64 7]) ∧ Duo (some (xb, actO op n y s xa m xc la ln lc)) w w' p b q c S l S l dn) := fun u h => du_ropenoff _ w u p b q c S l S l dn h hof
                        clear hof
                        go_wp2_with (first | (go_at_call 20; refine (C2.out _ B3.out).mono ?_; rintro e v4 ⟨rfl, hb4⟩; have B4 : Hid (Duo (some (xb, actO op n y s xa m xc la ln lc)) w v4 p b q c S l S l dn) := hb4; clear hb4) | (go_at_call 11; refine (C1.out _ HD.out).mono ?_; rintro e v3 ⟨rfl, hb3⟩; have B3 : Hid (Duo (some (xb, actO op n y s xa m xc la ln lc)) w v3 p b q c S l S l dn) := hb3; clear hb3))
                        go_meet
                        case rel => exact ⟨rfl, p, q, rfl, rfl, S, l, dn, B4.out, HA.out⟩
                    | false =>
                      go_wp2
                      go_meet
                      case rel => exact ⟨rfl, p, q, rfl, rfl, S, l, dn, HD.out, HA.out⟩
                case rest =>
                  clear x0 HD HA HOF HTB S l dn
                  obtain ⟨rfl, p, q, rfl, rfl, S, l, dn, hD, hA⟩ := hcut
                  obtain ⟨⟨A4, C4, s4⟩, s5⟩ := hD.shows
                  obtain ⟨N, hN⟩ : ∃ N, N = l.L.length := ⟨_, rfl⟩
                  obtain ⟨F, hF⟩ : ∃ F, F = l.safe := ⟨_, rfl⟩
                  rw [← hN] at s4
                  rw [← hF] at s5
                  have HNl : Hid (N = l.L.length) := hN
                  have HA : Hid (Agr S l dn a0 (2 * i + 2)) := hA
                  have D0 : Hid (LenD (some (xb, actO op n y s xa m xc la ln lc)) w wc p b q c S l dn (.slice A4 N C4) (.int .i64 (F : Nat))) := ⟨hD, s4, s5⟩
                  have D0d : Hid (LenD (some (xb, actO op n y s xa m xc la ln lc)) w wc.drew p b q c S l dn (.slice A4 N C4) (.int .i64 (F : Nat))) := ⟨hD.past (Below.refl _ _).drew, s4, s5⟩
                  have C1 : Hid (∀ u, LenD (some (xb, actO op n y s xa m xc la ln lc)) w u p b q c S l dn (.slice A4 N C4) (.int .i64 (F : Nat)) → Calls Try.prog 13 #[.pointer (some ⟨p, 0, none⟩)] u fun e w' => e = .returned (.int .i64 (N : Nat)) ∧ LenD (some (xb, actO op n y s xa m xc la ln lc)) w w' p b q c S l dn (.slice A4 N C4) (.int .i64 (F : Nat))) := fun u h => by rw [hN, hF]; rw [hN, hF] at h; exact (du_len3 w u p b q c S l dn _ _ h.duo h.c4 h.c5).mono (by rintro e w' ⟨rfl, a1, a2, a3⟩; exact ⟨rfl, a1, a2, a3⟩)
                  have C2 : Hid (∀ u, LenD (some (xb, actO op n y s xa m xc la ln lc)) w u p b q c S l dn (.slice A4 N C4) (.int .i64 (F : Nat)) → Calls Try.prog 19 #[.pointer (some ⟨p, 0, none⟩)] u fun e w' => e = .returned (.int .i64 (F : Nat)) ∧ LenD (some (xb, actO op n y s xa m xc la ln lc)) w w' p b q c S l dn (.slice A4 N C4) (.int .i64 (F : Nat))) := fun u h => by rw [hN, hF]; rw [hN, hF] at h; exact (du_safe3 w u p b q c S l dn _ _ h.duo h.c4 h.c5).mono (by rintro e w' ⟨rfl, a1, a2, a3⟩; exact ⟨rfl, a1, a2, a3⟩)
                  have KS : Hid (∀ {u : World}, LenD (some (xb, actO op n y s xa m xc la ln lc)) w u p b q c S l dn (.slice A4 N C4) (.int .i64 (F : Nat)) → u.cell? ⟨q, 4, none⟩ = some (.slice A4 N C4) ∧ u.cell? ⟨q, 5, none⟩ = some (.int .i64 (F : Nat))) := fun h => ⟨h.c4, h.c5⟩
                  clear hD hA hN hF
                  go_upto_region 49 with (fail)
                  go_cut [15, 221] (fun okv tv wx => okv = .bool true ∧ tv = .bool false ∧ Hid (Duo (some (xb, actO op n y s xa m xc la ln lc)) w wx p b q c S l S l dn))
                  case first =>
                    as_aux_lemma =>
                      go_region_held3 (fun u => u.cell? ⟨q, 4, none⟩ = some (.slice A4 N C4) ∧ u.cell? ⟨q, 5, none⟩ = some (.int .i64 (F : Nat))) (first | exact KS.out B4.out | exact KS.out B3.out | exact KS.out D0d.out | exact KS.out D0.out) (first | (go_at_call 19; refine (C2.out _ B3.out).mono ?_; rintro e v4 ⟨rfl, hb4⟩; have B4 : Hid _ := hb4; clear hb4) | (go_at_call 13; refine (C1.out _ (by first | exact D0d.out | exact D0.out)).mono ?_; rintro e v3 ⟨rfl, hb3⟩; have B3 : Hid _ := hb3; clear hb3))
                      all_goals
                        go_wp2
                        go_meet
                        case rel => exact ⟨rfl, by simp, B4.out.duo⟩
                  case rest =>
                    clear C1 C2 KS D0 D0d s4 s5
                    obtain ⟨rfl, rfl, HD⟩ := hcut
                    have hNb : N ≤ 10000 := by have := HA.out.len; rw [HNl.out]; omega
                    go_upto_block 5 with (fail)
                    go_cut [20] (fun nv wx => Hid (∃ dn, Duo (some (xb, actO op n y s xa m xc la ln lc)) w wx p b q c S l S l dn ∧ Agr S l dn a0 (2 * i + 2)))
                    case first =>
                      as_aux_lemma =>
                        go_wp2_with (fail)
                        go_loopw [20] (fun nv wx => ∃ t : Int, nv = .int .i64 t ∧ -1 ≤ t ∧ t ≤ (N : Int) + 1 ∧ Hid (∃ dn, Duo (some (xb, actO op n y s xa m xc la ln lc)) w wx p b q c S l S l dn ∧ Agr S l dn a0 (2 * i + 2))) (fun nv _ => ((N : Int) + 1 - intOf nv).toNat)
                        case atStart => exact ⟨-1, rfl, by omega, by omega, dn, HD.out, HA.out⟩
                        case round =>
                          clear HD HA dn
                          obtain ⟨t, rfl, ht0, ht1, dn, hD, hA⟩ := hrel
                          obtain ⟨⟨A4, C4, s4⟩, _⟩ := hD.shows
                          rw [← HNl.out] at s4
                          by_cases hle : t ≤ (N : Int)
                          · have bt : decide (t ≤ (N : Int)) = true := decide_eq_true hle
                            obtain ⟨E, hE⟩ : ∃ E, E = (atL S l t).1 := ⟨_, rfl⟩
                            obtain ⟨ZZ, hZZ⟩ : ∃ ZZ, ZZ = (atL S l t).2 := ⟨_, rfl⟩
                            obtain ⟨M, hM⟩ : ∃ M, M = ZZ.length := ⟨_, rfl⟩
                            have HM : Hid (ZZ.length = M) := hM.symm
                            have HD : Hid (Duo (some (xb, actO op n y s xa m xc la ln lc)) w wr p b q c S l S l dn) := hD
                            have C1 : Hid (Calls Try.prog 14 #[.pointer (some ⟨p, 0, none⟩), .int .i64 t] wr fun e w' => ∃ a cc X Z X2 Z2, e = .returned (.tuple #[.slice a M cc, .int .i64 E]) ∧ DuoI (some (xb, actO op n y s xa m xc la ln lc)) w w' p b q c S l S l dn X Z X2 Z2 ∧ RowOut w' a ZZ X2 Z2) := by rw [hM, hE, hZZ]; exact du_at _ w wr p b q c S l S l dn t hD
                            have C2 : Hid (∀ u X Z X2 Z2 a, DuoI (some (xb, actO op n y s xa m xc la ln lc)) w u p b q c S l S l dn X Z X2 Z2 → RowOut u a ZZ X2 Z2 → Calls Try.prog 28 #[.pointer (some ⟨q, 0, none⟩), .int .i64 t] u fun e w' => ∃ a2 cc, e = .returned (.tuple #[.slice a2 M cc, .int .i64 E]) ∧ Duo (some (xb, actO op n y s xa m xc la ln lc)) w w' p b q c S l S l (doneN S l dn) ∧ Row w' a ZZ ∧ Row w' a2 ZZ) := fun u X Z X2 Z2 a h1 h2 => by rw [hM, hE]; rw [hZZ] at h2 ⊢; exact du_rat _ w u p b q c S l S l dn t a0 (2 * i + 2) X Z X2 Z2 a _ h1 hA h2
                            have HA2 : Hid (Agr S l (doneN S l dn) a0 (2 * i + 2)) := hA.asked
                            clear hD hA hE hZZ hM
                            go_wp2_with (first | (go_at_call 28; refine (C2.out _ _ _ _ _ _ B3.out R3.out).mono ?_; rintro e v4 ⟨a5, c5, rfl, h1, h2, h3⟩; have B4 : Hid (Duo (some (xb, actO op n y s xa m xc la ln lc)) w v4 p b q c S l S l (doneN S l dn)) := h1; have t1 := str_at HM.out h2 c3; have t2 := str_at HM.out h3 c5; clear h1 h2 h3) | (go_at_call 14; refine C1.out.mono ?_; rintro e v3 ⟨a3, c3, X, Z, X2, Z2, rfl, h1, h2⟩; have B3 : Hid (DuoI (some (xb, actO op n y s xa m xc la ln lc)) w v3 p b q c S l S l dn X Z X2 Z2) := h1; have R3 : Hid (RowOut v3 a3 ZZ X2 Z2) := h2; clear h1 h2))
                            go_roundw
                            case rel => exact ⟨t + 1, by simp, by omega, by omega, _, B4.out, HA2.out⟩
                            case measure => simp [intOf]; omega
                          · have bt : decide (t ≤ (N : Int)) = false := decide_eq_false hle
                            have HDA : Hid (∃ dn, Duo (some (xb, actO op n y s xa m xc la ln lc)) w wr p b q c S l S l dn ∧ Agr S l dn a0 (2 * i + 2)) := ⟨dn, hD, hA⟩
                            clear hD hA
                            go_wp2
                            go_meet
                            case rel => exact HDA.out
                    case rest =>
                      as_aux_lemma =>
                        clear HD HA dn
                        obtain ⟨dn, hD, hA⟩ := hcut
                        obtain ⟨E, hE⟩ : ∃ E, E = (S.read logS).1 := ⟨_, rfl⟩
                        obtain ⟨ZZ, hZZ⟩ : ∃ ZZ, ZZ = (S.read logS).2 := ⟨_, rfl⟩
                        obtain ⟨M, hM⟩ : ∃ M, M = ZZ.length := ⟨_, rfl⟩
                        have HM : Hid (ZZ.length = M) := hM.symm
                        have C1 : Hid (Calls Try.prog 29 #[.pointer (some ⟨b, 0, none⟩), .string ⟨#[108, 111, 103]⟩] wc fun e w' => ∃ a cc, e = .returned (.tuple #[.slice a M cc, .int .i64 E]) ∧ Duo (some (xb, actO op n y s xa m xc la ln lc)) w w' p b q c S l S l dn ∧ Row w' a ZZ) := by rw [hM, hE, hZZ]; exact du_read _ w wc p b q c S l S l dn a0 (2 * i + 2) hD hA hr.2
                        have C2 : Hid (∀ u a, Duo (some (xb, actO op n y s xa m xc la ln lc)) w u p b q c S l S l dn → Row u a ZZ → Calls Try.prog 30 #[.pointer (some ⟨c, 0, none⟩), .string ⟨#[108, 111, 103]⟩] u fun e w' => ∃ a2 cc, e = .returned (.tuple #[.slice a2 M cc, .int .i64 E]) ∧ Duo (some (xb, actO op n y s xa m xc la ln lc)) w w' p b q c S l S l dn ∧ Row w' a ZZ ∧ Row w' a2 ZZ) := fun u a h1 h2 => by rw [hM, hE]; rw [hZZ] at h2 ⊢; exact du_rread _ w u p b q c S l S l dn a0 (2 * i + 2) a _ h1 h2
                        have HA2 : Hid (Agr S l dn a0 (2 * (i + 1))) := hA.mono (by omega)
                        clear hD hA hE hZZ hM
                        go_wp2_with (first | (go_at_call 30; refine (C2.out _ _ B3.out R3.out).mono ?_; rintro e v4 ⟨a5, c5, rfl, h1, h2, h3⟩; have B4 : Hid (Duo (some (xb, actO op n y s xa m xc la ln lc)) w v4 p b q c S l S l dn) := h1; have t1 := str_at HM.out h2 c3; have t2 := str_at HM.out h3 c5; clear h1 h2 h3) | (go_at_call 29; refine C1.out.mono ?_; rintro e v3 ⟨a3, c3, rfl, h1, h2⟩; have B3 : Hid (Duo (some (xb, actO op n y s xa m xc la ln lc)) w v3 p b q c S l S l dn) := h1; have R3 : Hid (Row v3 a3 ZZ) := h2; clear h1 h2))
                        go_roundw
                        case rel => exact ⟨p, q, i + 1, rfl, rfl, by simp, by omega, S, l, dn, B4.out.free, HA2.out⟩
                        case measure => simp [intOf]; omega
    · have hin : i = len1 := by omega
      as_aux_lemma =>
        have bN : decide ((i : Int) < (len1 : Int)) = false := decide_eq_false (by omega)
        have HB : Hid (Below w.heap.size w wr) := hD.below
        clear hD hA hin
        go_wp2
        go_ret
        exact ⟨rfl, HB.out⟩

set_option maxRecDepth 100000 in
theorem lifted (os : Os) (started : os.Started) (H : Type) (enc : TypeId × Value → H) :
    ReturnsInHanded {} Try.checked os 4 .any (Rows.walPlaysSpec.pre6 enc Try.prog Try.f4 Rows.walPlaysRow.domain false) (Rows.walPlaysSpec.post enc Try.prog Try.f4 false true false false) := by
  refine returnsInHanded_of_change (C := Try.checked) own started (by kernel_rfl) Try.func4
    (ChangeSpec.witness6 (enc := enc) (C := Try.checked) false ⟨#[], #[.int .i64 0, .slice none 0 0], []⟩ 8 (by kernel_rfl) (by kernel_rfl) (by kernel_rfl) (by kernel_rfl)) ?_
  intro W base args ds gs before hval0 hW hcnd _
  have hval : ∀ (j : Nat) t v, Try.f4.params[j]? = some t → args[j]? = some v → Value.okWide Try.prog W .any base t v := hval0
  have hW' := hW
  obtain ⟨p, q, hA0, hV, rfl, hfz, hnd⟩ := hW
  have hA : DataW.TrodAll enc Try.prog W 0 (fun _ => true) true Try.f4.params.toList args.toList ds p := hA0
  rw [Try.params4] at hA hval
  obtain ⟨v0, vs0, d0, ds0, p0, q0, hargs, rfl, rfl, h0, r0⟩ := trodAll_cons hA
  obtain ⟨v1, vs1, d1, ds1, p1, q1, rfl, rfl, rfl, h1, r1⟩ := trodAll_cons r0
  obtain ⟨rfl, rfl, rfl⟩ := trodAll_nil r1
  obtain rfl : args = #[v0, v1] := by cases args; simp_all
  obtain ⟨rfl, rfl⟩ := trodVars_none hV
  have k0 := h0
  have lt0 : ∀ x ∈ p0, x.block < W.heap.size := by obtain ⟨m, hm⟩ := k0; exact DataW.trod_lt m _ _ _ hm
  obtain ⟨a0, rfl, rfl, rfl, w0⟩ := open_int Try.underlying3 (hval 0 3 v0 rfl rfl) h0
  obtain ⟨a1, len1, cap1, rfl⟩ := okWide_slice Try.underlying37 (hval 1 37 v1 rfl rfl)
  have k1 := h1
  have lt1 : ∀ x ∈ p1, x.block < W.heap.size := by obtain ⟨m, hm⟩ := k1; exact DataW.trod_lt m _ _ _ hm
  obtain ⟨z1, l1, w1⟩ : ∃ xs : List WAct, xs.length = len1 ∧ WActsOf W a1 cap1 xs := by
    obtain ⟨fuel, hf⟩ := h1
    exact wacts_open Try.underlying37 Try.underlying47 Try.underlying3 Try.underlying3 Try.underlying5 Try.underlying9 Try.underlying31 Try.underlying5 Try.underlying45 Try.underlying31 rfl rfl rfl rfl rfl rfl (by kernel_rfl) (by kernel_rfl) (by kernel_rfl) (by kernel_rfl) (by kernel_rfl) (by kernel_rfl) (by kernel_rfl) (by kernel_rfl) (by kernel_rfl) hf
  clear hA0 hval0
  refine (walk a0 a1 len1 cap1 z1 W w0 l1 w1).mono fun e W' ⟨he, bel⟩ => ?_
  subst he
  exact ⟨_, rfl, _, _, _, [], _, [], hW', trodAll_mk1 (shut_bool Try.underlying4 _), (trodAll_cons_mk (Below.trod laidOut (by kernel_rfl) (of_decide_eq_true (by kernel_rfl)) k0 bel lt0) (trodAll_cons_mk (Below.trod laidOut (by kernel_rfl) (of_decide_eq_true (by kernel_rfl)) k1 bel lt1) trodAll_mk0)), rfl, bel.frame _, fun h => by cases h⟩

theorem over : Rows.walPlaysRow.holds Try.pinned (OpenSpec.ofChange Rows.walPlaysSpec) :=
  OpenClaim.holds_of_wide 4 Try.f4 rfl rfl rfl rfl rfl rfl rfl ⟨rfl, rfl, rfl, rfl, rfl⟩ rfl rfl rfl rfl rfl (by kernel_rfl) Try.func4 (by kernel_rfl)
    (of_decide_eq_true (by kernel_rfl)) (by unfold Func.isWrapper; first | (rw [if_pos (by decide +kernel)]; kernel_rfl) | (rw [if_neg (by decide +kernel)]; exact ⟨rfl, rfl⟩))
    (fun os started H enc _ => lifted os started H enc)
theorem proved : Rows.WalPlaysSaid := over
#print axioms proved
end Go.Proofs.Ytlfmhdljldbjmaa.walPlays
namespace Go.Proofs.Ytlfmhdljldbjmaa
/-- WalPlays, as given. -/
theorem walPlays_holds : Rows.WalPlaysSaid := walPlays.proved
end Go.Proofs.Ytlfmhdljldbjmaa
