/-
  PartHolds: what was prepared can be committed, at any stamp not below its own, whatever comes between, and is read just from then on (of lists of more than 15 acts, of acts of more than 20 writes, of values of more than 250 bytes, of stamps further on than two to the fiftieth the statement asks nothing).
-/
import Derived.Test.YtileidbdmpeciaaGreatRows
import Derived.Test.YtileidbdmpeciaaGreatAu79
import Derived.Test.YtileidbdmpeciaaGreatQActs
import Derived.WalkKit
import Derived.ProofKit
import Derived.OpenShut
import Derived.ShutString
import Derived.ChangeOld
import Derived.Below
import Derived.Carry
namespace Go.Proofs.YtileidbdmpeciaaGreat.partHolds
open Go.ChangeShapes Go.WideShapes Go.ChangeAt Go.RowKit
open Go.ChangeMaps (open_string shut_string)
set_option linter.unusedVariables false

theorem own : ownKnob Tryz.prog.godebug = none := by kernel_rfl
theorem laidOut : laidOutB Tryz.prog = true := by kernel_rfl
/-- A slice of integers that came in: nil, or a row of 'cap' cells, of which the first 'len' are its elements. -/
def IsRow (k : IntKind) (w : World) (a : Option Addr) (len cap : Nat) (zs : List Int) : Prop :=
  (a = none ∧ len = 0 ∧ cap = 0 ∧ zs = []) ∨
  ∃ x, a = some x ∧ len ≤ cap ∧ cap ≤ maxLen ∧ zs.length = cap ∧ (∀ i, i < zs.length → w.cell? (x.add i) = some (.int k (zs.getD i 0))) ∧ ∀ n ∈ zs, (Lit.int k n).wf = true

set_option maxRecDepth 20000 in
set_option maxHeartbeats 16000000 in
theorem walk (a0 : Option Addr) (len0 cap0 : Nat) (z0 : List QAct) (x1 : EntM) (a2 : Option Addr) (len2 cap2 : Nat) (z2 : List QAct) (a3 : Int) (w : World) (l0 : z0.length = len0) (w0 : QActsOf w a0 cap0 z0) (w1 : EntIn w x1) (l2 : z2.length = len2) (w2 : QActsOf w a2 cap2 z2) (w3 : (Lit.int .i64 a3).wf = true) :
    Calls Tryz.prog 5 #[.slice a0 len0 cap0, ev x1, .slice a2 len2 cap2, .int .i64 a3] w fun e w' => e = .returned (.bool true) ∧ Below w.heap.size w w' := by
  have KN : Hid (I64 a3) := bounds_i64 w3
  have hw3 := bounds_i64 w3
  have AW : Hid (∀ u, Calls Tryz.prog 8 #[] u fun e w' => e = .returned (.bool true) ∧ Below u.heap.size u w') := fun u => qawake_any u
  have HL : Hid (z0.length = len0) := l0
  have HA : Hid (QActsOf w a0 cap0 z0) := w0
  have hcap : len0 ≤ cap0 := by rw [← l0]; exact w0.room
  have HL2 : Hid (z2.length = len2) := l2
  have HA2 : Hid (QActsOf w a2 cap2 z2) := w2
  have hcap2 : len2 ≤ cap2 := by rw [← l2]; exact w2.room
  have HX : Hid (EntIn w x1) := w1
  obtain ⟨xid, hxid⟩ : ∃ t, t = x1.e.id := ⟨_, rfl⟩
  obtain ⟨xs, hxs⟩ : ∃ t, t = x1.e.s := ⟨_, rfl⟩
  obtain ⟨xm, hxm⟩ : ∃ t, t = x1.e.m := ⟨_, rfl⟩
  obtain ⟨xt, hxt⟩ : ∃ t, t = x1.e.t := ⟨_, rfl⟩
  obtain ⟨xn, hxn⟩ : ∃ t, t = x1.e.n := ⟨_, rfl⟩
  obtain ⟨xa, hxa⟩ : ∃ t, t = x1.a := ⟨_, rfl⟩
  obtain ⟨N, hN⟩ : ∃ t, t = x1.e.l.length := ⟨_, rfl⟩
  obtain ⟨xc, hxc⟩ : ∃ t, t = x1.c := ⟨_, rfl⟩
  have e1 : encE x1 = [.int .i64 xid, .int .i64 xs, .int .u8 xm, .int .i64 xt, .int .u8 xn, .slice xa N xc] := by unfold encE; rw [hxid, hxs, hxm, hxt, hxn, hxa, hN, hxc]
  have e2 : ev x1 = .agg #[.int .i64 xid, .int .i64 xs, .int .u8 xm, .int .i64 xt, .int .u8 xn, .slice xa N xc] := by show Value.agg (encE x1).toArray = _; rw [e1]
  obtain ⟨W0, hW0⟩ : ∃ W0, W0 = (w.alloc (.cells #[.int .i64 xid, .int .i64 xs, .int .u8 xm, .int .i64 xt, .int .u8 xn, .slice xa N xc] 31)) := ⟨_, rfl⟩
  have HW0 : Hid ((w.alloc (.cells #[.int .i64 xid, .int .i64 xs, .int .u8 xm, .int .i64 xt, .int .u8 xn, .slice xa N xc] 31)) = W0) := hW0.symm
  have HB0 : Hid (Below w.heap.size w W0) := by rw [hW0]; exact (Below.refl _ _).alloc (Nat.le_refl _) _
  have HEM : Hid (EntMine W0 w.heap.size x1) := by rw [hW0, show (#[.int .i64 xid, .int .i64 xs, .int .u8 xm, .int .i64 xt, .int .u8 xn, .slice xa N xc] : Array Value) = (encE x1).toArray by rw [e1]]; exact EntMine.made w 31 x1
  have EA : Hid (∀ u, Below W0.heap.size W0 u → EntAt u w.heap.size 0 x1) := fun u hb => HEM.out.at_.past hb
  have EB : Hid (∀ u, Below W0.heap.size W0 u → u.cell? ⟨w.heap.size, 0, none⟩ = some (.int .i64 xid) ∧ u.cell? ⟨w.heap.size, 3, none⟩ = some (.int .i64 xt) ∧ u.cell? ⟨w.heap.size, 4, none⟩ = some (.int .u8 xn) ∧ u.cell? ⟨w.heap.size, 5, none⟩ = some (.slice xa N xc)) := fun u hb => by
    have h1 := (EA.out u hb).cells
    rw [hxid, hxt, hxn, hxa, hN, hxc]
    exact ⟨h1.1, h1.2.2.2.1, h1.2.2.2.2.1, h1.2.2.2.2.2⟩
  have HBW0 : Hid (∀ u, Below W0.heap.size W0 u → Below w.heap.size w u) := fun u h => HB0.out.trans (h.mono HB0.out.size)
  obtain ⟨le, hle⟩ : ∃ g, g = longQ x1.e.l := ⟨_, rfl⟩
  have CLE : Hid (∀ u, Below W0.heap.size W0 u → Calls Tryz.prog 22 #[.slice xa N xc] u fun e w' => e = .returned (.bool le) ∧ w' = u) := fun u hb => by rw [hxa, hN, hxc, hle]; exact qlong_any x1.a x1.e.l.length x1.c x1.e.l u rfl w1.wr.room w1.wr.few (w1.wr.at_.past (HBW0.out u hb))
  have HEW : Hid (le = false → ∀ u, Below W0.heap.size W0 u → EntW u x1) := fun hg u hb => HX.out.w (HBW0.out u hb) (by rw [← hle]; exact hg)
  have CN : Hid (∀ u, Below W0.heap.size W0 u → Calls Tryz.prog 9 #[] u fun e w' => ∃ p, e = .returned (.pointer (some ⟨p, 0, none⟩)) ∧ PaX W0 w' p ⟨[], [], []⟩ 0) := fun u hb => xanewp hb
  have HID : Hid (xid = x1.e.id) := hxid
  have HXT : Hid (xt = x1.e.t) := hxt
  have HXN : Hid (xn = x1.e.n) := hxn
  have HXA : Hid (xa = x1.a) := hxa
  have HNN : Hid (x1.e.l.length = N) := hN.symm
  have hxt2 : -9223372036854775808 ≤ xt ∧ xt ≤ 9223372036854775807 := by rw [hxt]; exact w1.ok.t
  have hroom : N ≤ xc := by rw [hN, hxc]; exact w1.wr.room
  have hfew : N ≤ 9223372036854775807 := by rw [hN]; exact w1.wr.few
  rw [e2]
  clear w0 w1 w2 w3 l0 l2 e1 e2 hW0 hxid hxs hxm hxt hxn hxa hN hxc hle
  by_cases ha : 15 < len0
  · have ba : (15 : Int) < (len0 : Int) := by omega
    go_enter Tryz.func5, Tryz.ntmps5
    go_wp2_with (first | (have hgo := B1.out; clear hgo; go_at_call 22; refine (CLE.out _ B1.out).mono ?_; rintro e v9 ⟨rfl, hv9⟩; obtain rfl := hv9.symm) | (go_at_call 8; rw [HW0.out]; refine (AW.out _).mono ?_; rintro e v1 ⟨rfl, hb1⟩; have B1 : Hid (Below W0.heap.size W0 v1) := hb1; obtain ⟨e0, e3, e4, e5⟩ := EB.out v1 hb1; clear hb1))
    go_ret
    exact ⟨rfl, HBW0.out _ B1.out⟩
  · have ba : ¬ (15 : Int) < (len0 : Int) := by omega
    have h15 : len0 ≤ 15 := by omega
    by_cases hb : 15 < len2
    · have bb : (15 : Int) < (len2 : Int) := by omega
      go_enter Tryz.func5, Tryz.ntmps5
      go_wp2_with (first | (have hgo := B1.out; clear hgo; go_at_call 22; refine (CLE.out _ B1.out).mono ?_; rintro e v9 ⟨rfl, hv9⟩; obtain rfl := hv9.symm) | (go_at_call 8; rw [HW0.out]; refine (AW.out _).mono ?_; rintro e v1 ⟨rfl, hb1⟩; have B1 : Hid (Below W0.heap.size W0 v1) := hb1; obtain ⟨e0, e3, e4, e5⟩ := EB.out v1 hb1; clear hb1))
      go_ret
      exact ⟨rfl, HBW0.out _ B1.out⟩
    · have bb15 : ¬ (15 : Int) < (len2 : Int) := by omega
      have h20 : len2 ≤ 15 := by omega
      cases le with
      | true =>
        go_enter Tryz.func5, Tryz.ntmps5
        go_wp2_with (first | (have hgo := B1.out; clear hgo; go_at_call 22; refine (CLE.out _ B1.out).mono ?_; rintro e v9 ⟨rfl, hv9⟩; obtain rfl := hv9.symm) | (go_at_call 8; rw [HW0.out]; refine (AW.out _).mono ?_; rintro e v1 ⟨rfl, hb1⟩; have B1 : Hid (Below W0.heap.size W0 v1) := hb1; obtain ⟨e0, e3, e4, e5⟩ := EB.out v1 hb1; clear hb1))
        go_ret
        exact ⟨rfl, HBW0.out _ B1.out⟩
      | false =>
        have HEX : Hid (∀ u, Below W0.heap.size W0 u → EntW u x1) := HEW.out rfl
        clear HEW
        by_cases hu : a3 < 0
        · go_enter Tryz.func5, Tryz.ntmps5
          go_wp2_with (first | (have hgo := B1.out; clear hgo; go_at_call 22; refine (CLE.out _ B1.out).mono ?_; rintro e v9 ⟨rfl, hv9⟩; obtain rfl := hv9.symm) | (go_at_call 8; rw [HW0.out]; refine (AW.out _).mono ?_; rintro e v1 ⟨rfl, hb1⟩; have B1 : Hid (Below W0.heap.size W0 v1) := hb1; obtain ⟨e0, e3, e4, e5⟩ := EB.out v1 hb1; clear hb1))
          go_ret
          exact ⟨rfl, HBW0.out _ B1.out⟩
        · by_cases hv : 1000 < a3
          · go_enter Tryz.func5, Tryz.ntmps5
            go_wp2_with (first | (have hgo := B1.out; clear hgo; go_at_call 22; refine (CLE.out _ B1.out).mono ?_; rintro e v9 ⟨rfl, hv9⟩; obtain rfl := hv9.symm) | (go_at_call 8; rw [HW0.out]; refine (AW.out _).mono ?_; rintro e v1 ⟨rfl, hb1⟩; have B1 : Hid (Below W0.heap.size W0 v1) := hb1; obtain ⟨e0, e3, e4, e5⟩ := EB.out v1 hb1; clear hb1))
            go_ret
            exact ⟨rfl, HBW0.out _ B1.out⟩
          · by_cases hx : 1125899906842624 < xt
            · go_enter Tryz.func5, Tryz.ntmps5
              go_wp2_with (first | (have hgo := B1.out; clear hgo; go_at_call 22; refine (CLE.out _ B1.out).mono ?_; rintro e v9 ⟨rfl, hv9⟩; obtain rfl := hv9.symm) | (go_at_call 8; rw [HW0.out]; refine (AW.out _).mono ?_; rintro e v1 ⟨rfl, hb1⟩; have B1 : Hid (Below W0.heap.size W0 v1) := hb1; obtain ⟨e0, e3, e4, e5⟩ := EB.out v1 hb1; clear hb1))
              go_ret
              exact ⟨rfl, HBW0.out _ B1.out⟩
            · clear ha hb
              have hsum1 : -9223372036854775808 ≤ xt + a3 := by omega
              have hsum2 : xt + a3 ≤ 9223372036854775807 := by omega
              go_enter Tryz.func5, Tryz.ntmps5
              go_wp2_with (first | (have hgo := B1.out; clear hgo; go_at_call 9; refine (CN.out _ B1.out).mono ?_; rintro e v2 ⟨p, rfl, h2⟩; have H2 : Hid (PaX W0 v2 p ⟨[], [], []⟩ 0) := h2; clear h2 B1 e0 e3 e4 e5) | (have hgo := B1.out; clear hgo; go_at_call 22; refine (CLE.out _ B1.out).mono ?_; rintro e v9 ⟨rfl, hv9⟩; obtain rfl := hv9.symm) | (go_at_call 8; rw [HW0.out]; refine (AW.out _).mono ?_; rintro e v1 ⟨rfl, hb1⟩; have B1 : Hid (Below W0.heap.size W0 v1) := hb1; obtain ⟨e0, e3, e4, e5⟩ := EB.out v1 hb1; clear hb1))
              clear CN AW CLE
              obtain ⟨ZA, hZA⟩ : ∃ l, l = z0.flatMap encQ := ⟨_, rfl⟩
              obtain ⟨ZB, hZB⟩ : ∃ l, l = z2.flatMap encQ := ⟨_, rfl⟩
              have LZA : Hid (ZA.length = len0 * 18) := by show _ = _; rw [hZA, flat_len (size := 18) z0 (fun x _ => encQ_len x), HL.out]
              have LZB : Hid (ZB.length = len2 * 18) := by show _ = _; rw [hZB, flat_len (size := 18) z2 (fun x _ => encQ_len x), HL2.out]
              have OZA : Hid (∀ u ∈ ZA, u.oneCell' = true) := by rw [hZA]; exact encQs_one z0
              have OZB : Hid (∀ u ∈ ZB, u.oneCell' = true) := by rw [hZB]; exact encQs_one z2
              have LA : Hid (∀ u, Below W0.heap.size W0 u → Lies u a0 ZA) := fun u hb => by rw [hZA]; exact HA.out.lies.past (HBW0.out u hb)
              have LB : Hid (∀ u, Below W0.heap.size W0 u → Lies u a2 ZB) := fun u hb => by rw [hZB]; exact HA2.out.lies.past (HBW0.out u hb)
              have HZ : Hid ((z0 ++ z2).flatMap encQ = ZA ++ ZB) := by show _ = _; rw [List.flatMap_append, hZA, hZB]
              have NZA : Hid (a0 = none → len0 = 0 ∧ cap0 = 0) := fun e => by have := HA.out.nil e; omega
              have NZB : Hid (a2 = none → len2 = 0 ∧ cap2 = 0) := fun e => by have := HA2.out.nil e; omega
              clear hZA hZB
              go_loopw [10] (fun iv wr => ∃ i : Nat, iv = .int .i64 i ∧ i ≤ len0 + len2 ∧ Hid (HoQ W0 wr p i x1.e (decide (len0 < i)))) (fun iv _ => len0 + len2 - (intOf iv).toNat)
              case atStart => exact ⟨0, rfl, Nat.zero_le _, ⟨_, H2.out, fun e => by simp at e⟩⟩
              case round =>
                clear H2
                obtain ⟨i, rfl, hi, HC⟩ := hrel
                have h0 : (0 : Int) ≤ (i : Int) := by omega
                obtain ⟨e0, e3, e4, e5⟩ := EB.out wr HC.out.below
                by_cases hlt : i < len0 + len2
                · rcases Nat.lt_trichotomy i len0 with hlo | hlo | hlo
                  · have h1 : (i : Int) < (len0 : Int) + (len2 : Int) := by omega
                    have h1n : (i : Int) < ((len0 + len2 : Nat) : Int) := by omega
                    have hge : ¬ (len0 : Int) ≤ (i : Int) := by omega
                    have bie : ((i : Int) == (len0 : Int)) = false := by simp; omega
                    obtain ⟨bb, hbb⟩ : ∃ b, b = false := ⟨_, rfl⟩
                    have HV : Hid (HoQ W0 wr p i x1.e bb) := by have := HC.out; rw [decide_eq_false (by omega)] at this; rw [hbb]; exact this
                    have HBB : Hid (bb = decide (len0 < i + 1)) := by show _ = _; rw [hbb, decide_eq_false (by omega)]
                    have HBV : Hid (Below W0.heap.size W0 wr) := HV.out.below
                    have HVV : Hid (HoQ W0 wr p i x1.e bb) := HV.out
                    obtain ⟨y, hy⟩ : ∃ y, (z0 ++ z2)[i]? = some y := ⟨_, List.getElem?_eq_getElem (by rw [List.length_append, HL.out, HL2.out]; exact hlt)⟩
                    have HY : Hid ((z0 ++ z2)[i]? = some y) := hy
                    have hok : QActOk w y := by rcases List.mem_append.1 (List.mem_of_getElem? hy) with e | e; exact HA.out.oks y e; exact HA2.out.oks y e
                    have HOK : Hid (QActOk w y) := hok
                    obtain ⟨lg, hlg⟩ : ∃ g, g = longQ y.x.e.l := ⟨_, rfl⟩
                    have HLG : Hid (lg = longQ y.x.e.l) := hlg
                    obtain ⟨M, hM⟩ : ∃ N, N = y.x.e.l.length := ⟨_, rfl⟩
                    obtain ⟨ya, hya⟩ : ∃ t, t = y.x.a := ⟨_, rfl⟩
                    obtain ⟨yc, hyc⟩ : ∃ t, t = y.x.c := ⟨_, rfl⟩
                    obtain ⟨op, hop⟩ : ∃ t, t = y.op := ⟨_, rfl⟩
                    obtain ⟨id, hid⟩ : ∃ t, t = y.x.e.id := ⟨_, rfl⟩
                    obtain ⟨t, ht⟩ : ∃ t, t = y.t := ⟨_, rfl⟩
                    obtain ⟨n, hn⟩ : ∃ t, t = y.n := ⟨_, rfl⟩
                    have CLG : Hid (∀ u, Below W0.heap.size W0 u → Calls Tryz.prog 22 #[.slice ya M yc] u fun e w' => e = .returned (.bool lg) ∧ w' = u) := fun u hb => by rw [hya, hM, hyc, hlg]; exact qlong_any y.x.a y.x.e.l.length y.x.c y.x.e.l u rfl hok.ent.wr.room hok.ent.wr.few (hok.ent.wr.at_.past (HBW0.out u hb))
                    have FQ : Hid (∀ u c, QMine u c y → u.cell? ⟨c, 0, none⟩ = some (.int .i64 op) ∧ u.cell? ⟨c, 1, none⟩ = some (.int .i64 id) ∧ u.cell? ⟨c, 6, none⟩ = some (.slice ya M yc) ∧ u.cell? ⟨c, 7, none⟩ = some (.int .i64 t) ∧ u.cell? ⟨c, 8, none⟩ = some (.int .u8 n)) := fun u c hm => by
                      have h1 := hm.at_.ent.cells
                      have h2 := hm.at_.st
                      rw [Nat.zero_add] at h1 h2
                      rw [hop, hid, hya, hM, hyc, ht, hn]
                      exact ⟨hm.at_.op, h1.1, h1.2.2.2.2.2, h2.1, h2.2⟩
                    have CPR : Hid (lg = false → ∀ u, HoQ W0 u p i x1.e bb → Calls Tryz.prog 10 #[.pointer (some ⟨p, 0, none⟩), ev y.x] u fun e w' => (∃ z : Int, e = .returned (.int .i64 z)) ∧ Hid (HoQ W0 w' p (i + 1) x1.e bb)) := fun hg u h => by
                      refine (hoq_prep h y.x (HOK.out.ent.w (HBW0.out u h.below) (by rw [← HLG.out]; exact hg))).mono ?_
                      rintro e w' ⟨h1, h2⟩
                      exact ⟨h1, h2.up (Nat.le_succ _)⟩
                    have CCO : Hid ((bb = true → id ≠ xid) → ∀ u, HoQ W0 u p i x1.e bb → Calls Tryz.prog 12 #[.pointer (some ⟨p, 0, none⟩), .int .i64 id, .agg #[.int .i64 t, .int .u8 n]] u fun e w' => (∃ z : Int, e = .returned (.int .i64 z)) ∧ Hid (HoQ W0 w' p (i + 1) x1.e bb)) := fun hne u h => hoq_commit h id t n (by rw [hid]; exact HOK.out.ent.ok.id) (by rw [hn]; exact HOK.out.n) (by omega) (fun e => by rw [← HID.out]; exact hne e)
                    have CAB : Hid ((bb = true → id ≠ xid) → ∀ u, HoQ W0 u p i x1.e bb → Calls Tryz.prog 17 #[.pointer (some ⟨p, 0, none⟩), .int .i64 id] u fun e w' => (∃ z : Int, e = .returned (.int .i64 z)) ∧ Hid (HoQ W0 w' p (i + 1) x1.e bb)) := fun hne u h => hoq_abort h id (by rw [hid]; exact HOK.out.ent.ok.id) (by omega) (fun e => by rw [← HID.out]; exact hne e)
                    clear hlg hM hya hyc hop hid ht hn hok hy HOK
                    have HBF : Hid (bb = false) := hbb
                    clear HC hbb
                    cases lg with
                    | true =>
                      clear CPR CCO CAB
                      go_wp2_with (first | (have hgo := HVV.out; clear hgo; at_builtin; refine wpList_own qactEl (w0 := wr) rfl (.tmp 66) (.tmp 67) rfl _ 0 [] ZA rfl (own_mt 55 18 wr) _ _ _ rfl LZA.out (LA.out _ (HBV.out.trans ((own_mt 55 18 wr).below.mono HBV.out.size))) OZA.out NZA.out len0 (Nat.zero_add _) (by omega) ZA (List.nil_append _) ?_; intro a5 c5 w5 h1 h2; have O5 : Hid (OwnB 55 18 wr w5 (.slice a5 len0 c5) len0 ZA) := h1; have H5 : Hid (HoQ W0 w5 p i x1.e bb) := HVV.out.past h1.below; clear h1 h2 HVV) | (have hgo := O5.out; clear hgo; at_builtin; refine wpList_own qactEl (w0 := wr) rfl (.tmp 68) (.tmp 69) rfl _ len0 ZA ZB rfl O5.out _ _ _ rfl LZB.out (LB.out _ (HBV.out.trans (O5.out.below.mono HBV.out.size))) OZB.out NZB.out (len0 + len2) rfl (by omega) (ZA ++ ZB) rfl ?_; intro a6 c6 w6 h1 h2; have O6 : Hid (OwnB 55 18 wr w6 (.slice a6 (len0 + len2) c6) (len0 + len2) (ZA ++ ZB)) := h1; have H6 : Hid (HoQ W0 w6 p i x1.e bb) := HV.out.past h1.below; obtain ⟨g6, rfl, hc6⟩ := own_some h1.own (by omega); have QA : Hid (QActAt w6 g6 (i * 18) y) := own_qact (by rw [HZ.out]; exact h1.own) HY.out; have hmi := QMine.made w6 55 zeroQ; rw [zeroQ_cells] at hmi; have HMI : Hid _ := hmi; clear h1 h2 hmi O5 H5) | ((with_reducible show wpList _ _ _ (Oper.mk (some 73) _ _ _ _ _ :: _) _ _); refine wpList_load_qact 73 (by rfl) (by rfl) _ (by rfl) g6 (i * 18) (by rfl) y QA.out ?_) | (have hgo := HMI.out; clear hgo; refine wpList_store_qact (.tmp 11) (by rfl) _ (by rfl) w6.heap.size zeroQ y (by rfl) (by rfl) HMI.out ?_; intro u2 hu; have HQ2 : Hid (QMine u2 w6.heap.size y) := hu ▸ HMI.out.store; have HB2 : Below w6.heap.size w6 u2 := hu ▸ below_cells (Nat.le_refl _) ((Below.refl _ _).alloc (Nat.le_refl _) _); have HS2 : Hid (HoQ W0 u2 p i x1.e bb) := H6.out.past HB2; obtain ⟨x0, x1_, x6, x7, x8⟩ := FQ.out u2 w6.heap.size HQ2.out; obtain ⟨e0, e3, e4, e5⟩ := EB.out u2 HS2.out.below; clear hu HMI HB2 H6) | (have hgo := HS2.out; clear hgo; go_at_call 22; refine (CLG.out _ HS2.out.below).mono ?_; rintro e v3 ⟨rfl, hv3⟩; obtain rfl := hv3.symm))
                      go_ret
                      exact ⟨rfl, HBW0.out _ HS2.out.below⟩
                    | false =>
                      have CP2 := CPR.out rfl
                      have CP3 : Hid _ := CP2
                      have hi1 : decide (len0 < i + 1) = bb := HBB.out.symm
                      have HBN : Hid (decide (len0 < i + 1) = bb) := hi1
                      clear CP2 CPR hi1
                      have h4 : op = 0 ∨ op = 1 ∨ op = 2 ∨ (op ≠ 0 ∧ op ≠ 1 ∧ op ≠ 2) := by omega
                      rcases h4 with ho | ho | ho | ho
                      · subst ho
                        go_wp2_with (first | ((with_reducible show wpList _ _ _ (Oper.mk (some 96) _ _ _ _ _ :: _) _ _); refine wpList_load_pent 96 (by rfl) (by rfl) _ (by rfl) w6.heap.size 1 (by rfl) y.x HQ2.out.at_.ent ?_) | (have hgo := HS2.out; clear hgo; go_at_call 10; refine (CP3.out _ HS2.out).mono ?_; rintro e v4 ⟨⟨z, rfl⟩, H4⟩) | (have hgo := HVV.out; clear hgo; at_builtin; refine wpList_own qactEl (w0 := wr) rfl (.tmp 66) (.tmp 67) rfl _ 0 [] ZA rfl (own_mt 55 18 wr) _ _ _ rfl LZA.out (LA.out _ (HBV.out.trans ((own_mt 55 18 wr).below.mono HBV.out.size))) OZA.out NZA.out len0 (Nat.zero_add _) (by omega) ZA (List.nil_append _) ?_; intro a5 c5 w5 h1 h2; have O5 : Hid (OwnB 55 18 wr w5 (.slice a5 len0 c5) len0 ZA) := h1; have H5 : Hid (HoQ W0 w5 p i x1.e bb) := HVV.out.past h1.below; clear h1 h2 HVV) | (have hgo := O5.out; clear hgo; at_builtin; refine wpList_own qactEl (w0 := wr) rfl (.tmp 68) (.tmp 69) rfl _ len0 ZA ZB rfl O5.out _ _ _ rfl LZB.out (LB.out _ (HBV.out.trans (O5.out.below.mono HBV.out.size))) OZB.out NZB.out (len0 + len2) rfl (by omega) (ZA ++ ZB) rfl ?_; intro a6 c6 w6 h1 h2; have O6 : Hid (OwnB 55 18 wr w6 (.slice a6 (len0 + len2) c6) (len0 + len2) (ZA ++ ZB)) := h1; have H6 : Hid (HoQ W0 w6 p i x1.e bb) := HV.out.past h1.below; obtain ⟨g6, rfl, hc6⟩ := own_some h1.own (by omega); have QA : Hid (QActAt w6 g6 (i * 18) y) := own_qact (by rw [HZ.out]; exact h1.own) HY.out; have hmi := QMine.made w6 55 zeroQ; rw [zeroQ_cells] at hmi; have HMI : Hid _ := hmi; clear h1 h2 hmi O5 H5) | ((with_reducible show wpList _ _ _ (Oper.mk (some 73) _ _ _ _ _ :: _) _ _); refine wpList_load_qact 73 (by rfl) (by rfl) _ (by rfl) g6 (i * 18) (by rfl) y QA.out ?_) | (have hgo := HMI.out; clear hgo; refine wpList_store_qact (.tmp 11) (by rfl) _ (by rfl) w6.heap.size zeroQ y (by rfl) (by rfl) HMI.out ?_; intro u2 hu; have HQ2 : Hid (QMine u2 w6.heap.size y) := hu ▸ HMI.out.store; have HB2 : Below w6.heap.size w6 u2 := hu ▸ below_cells (Nat.le_refl _) ((Below.refl _ _).alloc (Nat.le_refl _) _); have HS2 : Hid (HoQ W0 u2 p i x1.e bb) := H6.out.past HB2; obtain ⟨x0, x1_, x6, x7, x8⟩ := FQ.out u2 w6.heap.size HQ2.out; obtain ⟨e0, e3, e4, e5⟩ := EB.out u2 HS2.out.below; clear hu HMI HB2 H6) | (have hgo := HS2.out; clear hgo; go_at_call 22; refine (CLG.out _ HS2.out.below).mono ?_; rintro e v3 ⟨rfl, hv3⟩; obtain rfl := hv3.symm))
                        go_roundw
                        case rel => exact ⟨i + 1, by go_num, by omega, (by show HoQ _ _ _ _ _ _; rw [HBN.out]; exact H4.out)⟩
                        case measure => simp [intOf]; omega
                      · subst ho
                        have CC2 := CCO.out (fun e => by rw [HBF.out] at e; cases e)
                        have CC3 : Hid _ := CC2
                        clear CC2
                        go_wp2_with (first | (have hgo := HS2.out; clear hgo; go_at_call 12; refine (CC3.out _ HS2.out).mono ?_; rintro e v4 ⟨⟨z, rfl⟩, H4⟩) | (have hgo := HVV.out; clear hgo; at_builtin; refine wpList_own qactEl (w0 := wr) rfl (.tmp 66) (.tmp 67) rfl _ 0 [] ZA rfl (own_mt 55 18 wr) _ _ _ rfl LZA.out (LA.out _ (HBV.out.trans ((own_mt 55 18 wr).below.mono HBV.out.size))) OZA.out NZA.out len0 (Nat.zero_add _) (by omega) ZA (List.nil_append _) ?_; intro a5 c5 w5 h1 h2; have O5 : Hid (OwnB 55 18 wr w5 (.slice a5 len0 c5) len0 ZA) := h1; have H5 : Hid (HoQ W0 w5 p i x1.e bb) := HVV.out.past h1.below; clear h1 h2 HVV) | (have hgo := O5.out; clear hgo; at_builtin; refine wpList_own qactEl (w0 := wr) rfl (.tmp 68) (.tmp 69) rfl _ len0 ZA ZB rfl O5.out _ _ _ rfl LZB.out (LB.out _ (HBV.out.trans (O5.out.below.mono HBV.out.size))) OZB.out NZB.out (len0 + len2) rfl (by omega) (ZA ++ ZB) rfl ?_; intro a6 c6 w6 h1 h2; have O6 : Hid (OwnB 55 18 wr w6 (.slice a6 (len0 + len2) c6) (len0 + len2) (ZA ++ ZB)) := h1; have H6 : Hid (HoQ W0 w6 p i x1.e bb) := HV.out.past h1.below; obtain ⟨g6, rfl, hc6⟩ := own_some h1.own (by omega); have QA : Hid (QActAt w6 g6 (i * 18) y) := own_qact (by rw [HZ.out]; exact h1.own) HY.out; have hmi := QMine.made w6 55 zeroQ; rw [zeroQ_cells] at hmi; have HMI : Hid _ := hmi; clear h1 h2 hmi O5 H5) | ((with_reducible show wpList _ _ _ (Oper.mk (some 73) _ _ _ _ _ :: _) _ _); refine wpList_load_qact 73 (by rfl) (by rfl) _ (by rfl) g6 (i * 18) (by rfl) y QA.out ?_) | (have hgo := HMI.out; clear hgo; refine wpList_store_qact (.tmp 11) (by rfl) _ (by rfl) w6.heap.size zeroQ y (by rfl) (by rfl) HMI.out ?_; intro u2 hu; have HQ2 : Hid (QMine u2 w6.heap.size y) := hu ▸ HMI.out.store; have HB2 : Below w6.heap.size w6 u2 := hu ▸ below_cells (Nat.le_refl _) ((Below.refl _ _).alloc (Nat.le_refl _) _); have HS2 : Hid (HoQ W0 u2 p i x1.e bb) := H6.out.past HB2; obtain ⟨x0, x1_, x6, x7, x8⟩ := FQ.out u2 w6.heap.size HQ2.out; obtain ⟨e0, e3, e4, e5⟩ := EB.out u2 HS2.out.below; clear hu HMI HB2 H6) | (have hgo := HS2.out; clear hgo; go_at_call 22; refine (CLG.out _ HS2.out.below).mono ?_; rintro e v3 ⟨rfl, hv3⟩; obtain rfl := hv3.symm))
                        go_roundw
                        case rel => exact ⟨i + 1, by go_num, by omega, (by show HoQ _ _ _ _ _ _; rw [HBN.out]; exact H4.out)⟩
                        case measure => simp [intOf]; omega
                      · subst ho
                        have CC2 := CAB.out (fun e => by rw [HBF.out] at e; cases e)
                        have CC3 : Hid _ := CC2
                        clear CC2
                        go_wp2_with (first | (have hgo := HS2.out; clear hgo; go_at_call 17; refine (CC3.out _ HS2.out).mono ?_; rintro e v4 ⟨⟨z, rfl⟩, H4⟩) | (have hgo := HVV.out; clear hgo; at_builtin; refine wpList_own qactEl (w0 := wr) rfl (.tmp 66) (.tmp 67) rfl _ 0 [] ZA rfl (own_mt 55 18 wr) _ _ _ rfl LZA.out (LA.out _ (HBV.out.trans ((own_mt 55 18 wr).below.mono HBV.out.size))) OZA.out NZA.out len0 (Nat.zero_add _) (by omega) ZA (List.nil_append _) ?_; intro a5 c5 w5 h1 h2; have O5 : Hid (OwnB 55 18 wr w5 (.slice a5 len0 c5) len0 ZA) := h1; have H5 : Hid (HoQ W0 w5 p i x1.e bb) := HVV.out.past h1.below; clear h1 h2 HVV) | (have hgo := O5.out; clear hgo; at_builtin; refine wpList_own qactEl (w0 := wr) rfl (.tmp 68) (.tmp 69) rfl _ len0 ZA ZB rfl O5.out _ _ _ rfl LZB.out (LB.out _ (HBV.out.trans (O5.out.below.mono HBV.out.size))) OZB.out NZB.out (len0 + len2) rfl (by omega) (ZA ++ ZB) rfl ?_; intro a6 c6 w6 h1 h2; have O6 : Hid (OwnB 55 18 wr w6 (.slice a6 (len0 + len2) c6) (len0 + len2) (ZA ++ ZB)) := h1; have H6 : Hid (HoQ W0 w6 p i x1.e bb) := HV.out.past h1.below; obtain ⟨g6, rfl, hc6⟩ := own_some h1.own (by omega); have QA : Hid (QActAt w6 g6 (i * 18) y) := own_qact (by rw [HZ.out]; exact h1.own) HY.out; have hmi := QMine.made w6 55 zeroQ; rw [zeroQ_cells] at hmi; have HMI : Hid _ := hmi; clear h1 h2 hmi O5 H5) | ((with_reducible show wpList _ _ _ (Oper.mk (some 73) _ _ _ _ _ :: _) _ _); refine wpList_load_qact 73 (by rfl) (by rfl) _ (by rfl) g6 (i * 18) (by rfl) y QA.out ?_) | (have hgo := HMI.out; clear hgo; refine wpList_store_qact (.tmp 11) (by rfl) _ (by rfl) w6.heap.size zeroQ y (by rfl) (by rfl) HMI.out ?_; intro u2 hu; have HQ2 : Hid (QMine u2 w6.heap.size y) := hu ▸ HMI.out.store; have HB2 : Below w6.heap.size w6 u2 := hu ▸ below_cells (Nat.le_refl _) ((Below.refl _ _).alloc (Nat.le_refl _) _); have HS2 : Hid (HoQ W0 u2 p i x1.e bb) := H6.out.past HB2; obtain ⟨x0, x1_, x6, x7, x8⟩ := FQ.out u2 w6.heap.size HQ2.out; obtain ⟨e0, e3, e4, e5⟩ := EB.out u2 HS2.out.below; clear hu HMI HB2 H6) | (have hgo := HS2.out; clear hgo; go_at_call 22; refine (CLG.out _ HS2.out.below).mono ?_; rintro e v3 ⟨rfl, hv3⟩; obtain rfl := hv3.symm))
                        go_roundw
                        case rel => exact ⟨i + 1, by go_num, by omega, (by show HoQ _ _ _ _ _ _; rw [HBN.out]; exact H4.out)⟩
                        case measure => simp [intOf]; omega
                      · have bo0 : (op == 0) = false := by simpa using ho.1
                        have bo1 : (op == 1) = false := by simpa using ho.2.1
                        have bo2 : (op == 2) = false := by simpa using ho.2.2
                        clear ho
                        go_wp2_with (first | (have hgo := HVV.out; clear hgo; at_builtin; refine wpList_own qactEl (w0 := wr) rfl (.tmp 66) (.tmp 67) rfl _ 0 [] ZA rfl (own_mt 55 18 wr) _ _ _ rfl LZA.out (LA.out _ (HBV.out.trans ((own_mt 55 18 wr).below.mono HBV.out.size))) OZA.out NZA.out len0 (Nat.zero_add _) (by omega) ZA (List.nil_append _) ?_; intro a5 c5 w5 h1 h2; have O5 : Hid (OwnB 55 18 wr w5 (.slice a5 len0 c5) len0 ZA) := h1; have H5 : Hid (HoQ W0 w5 p i x1.e bb) := HVV.out.past h1.below; clear h1 h2 HVV) | (have hgo := O5.out; clear hgo; at_builtin; refine wpList_own qactEl (w0 := wr) rfl (.tmp 68) (.tmp 69) rfl _ len0 ZA ZB rfl O5.out _ _ _ rfl LZB.out (LB.out _ (HBV.out.trans (O5.out.below.mono HBV.out.size))) OZB.out NZB.out (len0 + len2) rfl (by omega) (ZA ++ ZB) rfl ?_; intro a6 c6 w6 h1 h2; have O6 : Hid (OwnB 55 18 wr w6 (.slice a6 (len0 + len2) c6) (len0 + len2) (ZA ++ ZB)) := h1; have H6 : Hid (HoQ W0 w6 p i x1.e bb) := HV.out.past h1.below; obtain ⟨g6, rfl, hc6⟩ := own_some h1.own (by omega); have QA : Hid (QActAt w6 g6 (i * 18) y) := own_qact (by rw [HZ.out]; exact h1.own) HY.out; have hmi := QMine.made w6 55 zeroQ; rw [zeroQ_cells] at hmi; have HMI : Hid _ := hmi; clear h1 h2 hmi O5 H5) | ((with_reducible show wpList _ _ _ (Oper.mk (some 73) _ _ _ _ _ :: _) _ _); refine wpList_load_qact 73 (by rfl) (by rfl) _ (by rfl) g6 (i * 18) (by rfl) y QA.out ?_) | (have hgo := HMI.out; clear hgo; refine wpList_store_qact (.tmp 11) (by rfl) _ (by rfl) w6.heap.size zeroQ y (by rfl) (by rfl) HMI.out ?_; intro u2 hu; have HQ2 : Hid (QMine u2 w6.heap.size y) := hu ▸ HMI.out.store; have HB2 : Below w6.heap.size w6 u2 := hu ▸ below_cells (Nat.le_refl _) ((Below.refl _ _).alloc (Nat.le_refl _) _); have HS2 : Hid (HoQ W0 u2 p i x1.e bb) := H6.out.past HB2; obtain ⟨x0, x1_, x6, x7, x8⟩ := FQ.out u2 w6.heap.size HQ2.out; obtain ⟨e0, e3, e4, e5⟩ := EB.out u2 HS2.out.below; clear hu HMI HB2 H6) | (have hgo := HS2.out; clear hgo; go_at_call 22; refine (CLG.out _ HS2.out.below).mono ?_; rintro e v3 ⟨rfl, hv3⟩; obtain rfl := hv3.symm))
                        go_roundw
                        case rel => exact ⟨i + 1, by go_num, by omega, (by show HoQ _ _ _ _ _ _; rw [HBN.out]; exact (HS2.out.up (Nat.le_succ _)))⟩
                        case measure => simp [intOf]; omega
                  · have h1 : (i : Int) < (len0 : Int) + (len2 : Int) := by omega
                    have h1n : (i : Int) < ((len0 + len2 : Nat) : Int) := by omega
                    obtain ⟨z, CZ⟩ := hoq_first HC.out x1 rfl (HEX.out wr HC.out.below)
                    have hieq : (i : Int) = (len0 : Int) := by omega
                    obtain rfl : i = len0 := by omega
                    by_cases hz : z = 0
                    · have hge : (i : Int) ≤ (i : Int) := Int.le_refl _
                      subst hz
                      obtain ⟨bb, hbb⟩ : ∃ b, b = true := ⟨_, rfl⟩
                      have HBB : Hid (bb = decide (i < i + 1)) := by show _ = _; rw [hbb, decide_eq_true (by omega)]
                      obtain ⟨y, hy⟩ : ∃ y, (z0 ++ z2)[i]? = some y := ⟨_, List.getElem?_eq_getElem (by rw [List.length_append, HL.out, HL2.out]; exact hlt)⟩
                      have HY : Hid ((z0 ++ z2)[i]? = some y) := hy
                      have hok : QActOk w y := by rcases List.mem_append.1 (List.mem_of_getElem? hy) with e | e; exact HA.out.oks y e; exact HA2.out.oks y e
                      have HOK : Hid (QActOk w y) := hok
                      obtain ⟨lg, hlg⟩ : ∃ g, g = longQ y.x.e.l := ⟨_, rfl⟩
                      have HLG : Hid (lg = longQ y.x.e.l) := hlg
                      obtain ⟨M, hM⟩ : ∃ N, N = y.x.e.l.length := ⟨_, rfl⟩
                      obtain ⟨ya, hya⟩ : ∃ t, t = y.x.a := ⟨_, rfl⟩
                      obtain ⟨yc, hyc⟩ : ∃ t, t = y.x.c := ⟨_, rfl⟩
                      obtain ⟨op, hop⟩ : ∃ t, t = y.op := ⟨_, rfl⟩
                      obtain ⟨id, hid⟩ : ∃ t, t = y.x.e.id := ⟨_, rfl⟩
                      obtain ⟨t, ht⟩ : ∃ t, t = y.t := ⟨_, rfl⟩
                      obtain ⟨n, hn⟩ : ∃ t, t = y.n := ⟨_, rfl⟩
                      have CLG : Hid (∀ u, Below W0.heap.size W0 u → Calls Tryz.prog 22 #[.slice ya M yc] u fun e w' => e = .returned (.bool lg) ∧ w' = u) := fun u hb => by rw [hya, hM, hyc, hlg]; exact qlong_any y.x.a y.x.e.l.length y.x.c y.x.e.l u rfl hok.ent.wr.room hok.ent.wr.few (hok.ent.wr.at_.past (HBW0.out u hb))
                      have FQ : Hid (∀ u c, QMine u c y → u.cell? ⟨c, 0, none⟩ = some (.int .i64 op) ∧ u.cell? ⟨c, 1, none⟩ = some (.int .i64 id) ∧ u.cell? ⟨c, 6, none⟩ = some (.slice ya M yc) ∧ u.cell? ⟨c, 7, none⟩ = some (.int .i64 t) ∧ u.cell? ⟨c, 8, none⟩ = some (.int .u8 n)) := fun u c hm => by
                        have h1 := hm.at_.ent.cells
                        have h2 := hm.at_.st
                        rw [Nat.zero_add] at h1 h2
                        rw [hop, hid, hya, hM, hyc, ht, hn]
                        exact ⟨hm.at_.op, h1.1, h1.2.2.2.2.2, h2.1, h2.2⟩
                      have CPR : Hid (lg = false → ∀ u, HoQ W0 u p i x1.e bb → Calls Tryz.prog 10 #[.pointer (some ⟨p, 0, none⟩), ev y.x] u fun e w' => (∃ z : Int, e = .returned (.int .i64 z)) ∧ Hid (HoQ W0 w' p (i + 1) x1.e bb)) := fun hg u h => by
                        refine (hoq_prep h y.x (HOK.out.ent.w (HBW0.out u h.below) (by rw [← HLG.out]; exact hg))).mono ?_
                        rintro e w' ⟨h1, h2⟩
                        exact ⟨h1, h2.up (Nat.le_succ _)⟩
                      have CCO : Hid ((bb = true → id ≠ xid) → ∀ u, HoQ W0 u p i x1.e bb → Calls Tryz.prog 12 #[.pointer (some ⟨p, 0, none⟩), .int .i64 id, .agg #[.int .i64 t, .int .u8 n]] u fun e w' => (∃ z : Int, e = .returned (.int .i64 z)) ∧ Hid (HoQ W0 w' p (i + 1) x1.e bb)) := fun hne u h => hoq_commit h id t n (by rw [hid]; exact HOK.out.ent.ok.id) (by rw [hn]; exact HOK.out.n) (by omega) (fun e => by rw [← HID.out]; exact hne e)
                      have CAB : Hid ((bb = true → id ≠ xid) → ∀ u, HoQ W0 u p i x1.e bb → Calls Tryz.prog 17 #[.pointer (some ⟨p, 0, none⟩), .int .i64 id] u fun e w' => (∃ z : Int, e = .returned (.int .i64 z)) ∧ Hid (HoQ W0 w' p (i + 1) x1.e bb)) := fun hne u h => hoq_abort h id (by rw [hid]; exact HOK.out.ent.ok.id) (by omega) (fun e => by rw [← HID.out]; exact hne e)
                      clear hlg hM hya hyc hop hid ht hn hok hy HOK
                      clear hieq
                      cases lg with
                      | true =>
                        clear CPR CCO CAB
                        go_wp2_with (first | ((with_reducible show wpList _ _ _ (Oper.mk (some 62) _ _ _ _ _ :: _) _ _); refine wpList_load_pent 62 (by rfl) (by rfl) _ (by rfl) w.heap.size 0 (by rfl) x1 (EA.out _ HC.out.below) ?_) | (go_at_call 10; refine (CZ.out wr (Below.refl _ _)).mono ?_; rintro e v2 ⟨rfl, H2⟩; clear CZ HC; have HV : Hid (HoQ W0 v2 p i x1.e bb) := (by have := H2.out; rw [decide_eq_true rfl] at this; rw [hbb]; exact this); have HBV : Hid (Below W0.heap.size W0 v2) := HV.out.below; have HVV : Hid (HoQ W0 v2 p i x1.e bb) := HV.out; clear H2) | (have hgo := HVV.out; clear hgo; at_builtin; refine wpList_own qactEl (w0 := v2) rfl (.tmp 66) (.tmp 67) rfl _ 0 [] ZA rfl (own_mt 55 18 v2) _ _ _ rfl LZA.out (LA.out _ (HBV.out.trans ((own_mt 55 18 v2).below.mono HBV.out.size))) OZA.out NZA.out i (Nat.zero_add _) (by omega) ZA (List.nil_append _) ?_; intro a5 c5 w5 h1 h2; have O5 : Hid (OwnB 55 18 v2 w5 (.slice a5 i c5) i ZA) := h1; have H5 : Hid (HoQ W0 w5 p i x1.e bb) := HVV.out.past h1.below; clear h1 h2 HVV) | (have hgo := O5.out; clear hgo; at_builtin; refine wpList_own qactEl (w0 := v2) rfl (.tmp 68) (.tmp 69) rfl _ i ZA ZB rfl O5.out _ _ _ rfl LZB.out (LB.out _ (HBV.out.trans (O5.out.below.mono HBV.out.size))) OZB.out NZB.out (i + len2) rfl (by omega) (ZA ++ ZB) rfl ?_; intro a6 c6 w6 h1 h2; have O6 : Hid (OwnB 55 18 v2 w6 (.slice a6 (i + len2) c6) (i + len2) (ZA ++ ZB)) := h1; have H6 : Hid (HoQ W0 w6 p i x1.e bb) := HV.out.past h1.below; obtain ⟨g6, rfl, hc6⟩ := own_some h1.own (by omega); have QA : Hid (QActAt w6 g6 (i * 18) y) := own_qact (by rw [HZ.out]; exact h1.own) HY.out; have hmi := QMine.made w6 55 zeroQ; rw [zeroQ_cells] at hmi; have HMI : Hid _ := hmi; clear h1 h2 hmi O5 H5) | ((with_reducible show wpList _ _ _ (Oper.mk (some 73) _ _ _ _ _ :: _) _ _); refine wpList_load_qact 73 (by rfl) (by rfl) _ (by rfl) g6 (i * 18) (by rfl) y QA.out ?_) | (have hgo := HMI.out; clear hgo; refine wpList_store_qact (.tmp 11) (by rfl) _ (by rfl) w6.heap.size zeroQ y (by rfl) (by rfl) HMI.out ?_; intro u2 hu; have HQ2 : Hid (QMine u2 w6.heap.size y) := hu ▸ HMI.out.store; have HB2 : Below w6.heap.size w6 u2 := hu ▸ below_cells (Nat.le_refl _) ((Below.refl _ _).alloc (Nat.le_refl _) _); have HS2 : Hid (HoQ W0 u2 p i x1.e bb) := H6.out.past HB2; obtain ⟨x0, x1_, x6, x7, x8⟩ := FQ.out u2 w6.heap.size HQ2.out; obtain ⟨e0, e3, e4, e5⟩ := EB.out u2 HS2.out.below; clear hu HMI HB2 H6) | (have hgo := HS2.out; clear hgo; go_at_call 22; refine (CLG.out _ HS2.out.below).mono ?_; rintro e v3 ⟨rfl, hv3⟩; obtain rfl := hv3.symm))
                        go_ret
                        exact ⟨rfl, HBW0.out _ HS2.out.below⟩
                      | false =>
                        have CP2 := CPR.out rfl
                        have CP3 : Hid _ := CP2
                        have hi1 : decide (i < i + 1) = bb := HBB.out.symm
                        have HBN : Hid (decide (i < i + 1) = bb) := hi1
                        clear CP2 CPR hi1
                        by_cases hne : id = xid
                        · subst hne
                          go_wp2_with (first | ((with_reducible show wpList _ _ _ (Oper.mk (some 62) _ _ _ _ _ :: _) _ _); refine wpList_load_pent 62 (by rfl) (by rfl) _ (by rfl) w.heap.size 0 (by rfl) x1 (EA.out _ HC.out.below) ?_) | (go_at_call 10; refine (CZ.out wr (Below.refl _ _)).mono ?_; rintro e v2 ⟨rfl, H2⟩; clear CZ HC; have HV : Hid (HoQ W0 v2 p i x1.e bb) := (by have := H2.out; rw [decide_eq_true rfl] at this; rw [hbb]; exact this); have HBV : Hid (Below W0.heap.size W0 v2) := HV.out.below; have HVV : Hid (HoQ W0 v2 p i x1.e bb) := HV.out; clear H2) | (have hgo := HVV.out; clear hgo; at_builtin; refine wpList_own qactEl (w0 := v2) rfl (.tmp 66) (.tmp 67) rfl _ 0 [] ZA rfl (own_mt 55 18 v2) _ _ _ rfl LZA.out (LA.out _ (HBV.out.trans ((own_mt 55 18 v2).below.mono HBV.out.size))) OZA.out NZA.out i (Nat.zero_add _) (by omega) ZA (List.nil_append _) ?_; intro a5 c5 w5 h1 h2; have O5 : Hid (OwnB 55 18 v2 w5 (.slice a5 i c5) i ZA) := h1; have H5 : Hid (HoQ W0 w5 p i x1.e bb) := HVV.out.past h1.below; clear h1 h2 HVV) | (have hgo := O5.out; clear hgo; at_builtin; refine wpList_own qactEl (w0 := v2) rfl (.tmp 68) (.tmp 69) rfl _ i ZA ZB rfl O5.out _ _ _ rfl LZB.out (LB.out _ (HBV.out.trans (O5.out.below.mono HBV.out.size))) OZB.out NZB.out (i + len2) rfl (by omega) (ZA ++ ZB) rfl ?_; intro a6 c6 w6 h1 h2; have O6 : Hid (OwnB 55 18 v2 w6 (.slice a6 (i + len2) c6) (i + len2) (ZA ++ ZB)) := h1; have H6 : Hid (HoQ W0 w6 p i x1.e bb) := HV.out.past h1.below; obtain ⟨g6, rfl, hc6⟩ := own_some h1.own (by omega); have QA : Hid (QActAt w6 g6 (i * 18) y) := own_qact (by rw [HZ.out]; exact h1.own) HY.out; have hmi := QMine.made w6 55 zeroQ; rw [zeroQ_cells] at hmi; have HMI : Hid _ := hmi; clear h1 h2 hmi O5 H5) | ((with_reducible show wpList _ _ _ (Oper.mk (some 73) _ _ _ _ _ :: _) _ _); refine wpList_load_qact 73 (by rfl) (by rfl) _ (by rfl) g6 (i * 18) (by rfl) y QA.out ?_) | (have hgo := HMI.out; clear hgo; refine wpList_store_qact (.tmp 11) (by rfl) _ (by rfl) w6.heap.size zeroQ y (by rfl) (by rfl) HMI.out ?_; intro u2 hu; have HQ2 : Hid (QMine u2 w6.heap.size y) := hu ▸ HMI.out.store; have HB2 : Below w6.heap.size w6 u2 := hu ▸ below_cells (Nat.le_refl _) ((Below.refl _ _).alloc (Nat.le_refl _) _); have HS2 : Hid (HoQ W0 u2 p i x1.e bb) := H6.out.past HB2; obtain ⟨x0, x1_, x6, x7, x8⟩ := FQ.out u2 w6.heap.size HQ2.out; obtain ⟨e0, e3, e4, e5⟩ := EB.out u2 HS2.out.below; clear hu HMI HB2 H6) | (have hgo := HS2.out; clear hgo; go_at_call 22; refine (CLG.out _ HS2.out.below).mono ?_; rintro e v3 ⟨rfl, hv3⟩; obtain rfl := hv3.symm))
                          go_roundw
                          case rel => exact ⟨i + 1, by go_num, by omega, (by show HoQ _ _ _ _ _ _; rw [HBN.out]; exact (HS2.out.up (Nat.le_succ _)))⟩
                          case measure => simp [intOf]; omega
                        · have bne : (id == xid) = false := by simpa using hne
                          have h4 : op = 0 ∨ op = 1 ∨ op = 2 ∨ (op ≠ 0 ∧ op ≠ 1 ∧ op ≠ 2) := by omega
                          rcases h4 with ho | ho | ho | ho
                          · subst ho
                            go_wp2_with (first | ((with_reducible show wpList _ _ _ (Oper.mk (some 96) _ _ _ _ _ :: _) _ _); refine wpList_load_pent 96 (by rfl) (by rfl) _ (by rfl) w6.heap.size 1 (by rfl) y.x HQ2.out.at_.ent ?_) | (have hgo := HS2.out; clear hgo; go_at_call 10; refine (CP3.out _ HS2.out).mono ?_; rintro e v4 ⟨⟨z, rfl⟩, H4⟩) | ((with_reducible show wpList _ _ _ (Oper.mk (some 62) _ _ _ _ _ :: _) _ _); refine wpList_load_pent 62 (by rfl) (by rfl) _ (by rfl) w.heap.size 0 (by rfl) x1 (EA.out _ HC.out.below) ?_) | (go_at_call 10; refine (CZ.out wr (Below.refl _ _)).mono ?_; rintro e v2 ⟨rfl, H2⟩; clear CZ HC; have HV : Hid (HoQ W0 v2 p i x1.e bb) := (by have := H2.out; rw [decide_eq_true rfl] at this; rw [hbb]; exact this); have HBV : Hid (Below W0.heap.size W0 v2) := HV.out.below; have HVV : Hid (HoQ W0 v2 p i x1.e bb) := HV.out; clear H2) | (have hgo := HVV.out; clear hgo; at_builtin; refine wpList_own qactEl (w0 := v2) rfl (.tmp 66) (.tmp 67) rfl _ 0 [] ZA rfl (own_mt 55 18 v2) _ _ _ rfl LZA.out (LA.out _ (HBV.out.trans ((own_mt 55 18 v2).below.mono HBV.out.size))) OZA.out NZA.out i (Nat.zero_add _) (by omega) ZA (List.nil_append _) ?_; intro a5 c5 w5 h1 h2; have O5 : Hid (OwnB 55 18 v2 w5 (.slice a5 i c5) i ZA) := h1; have H5 : Hid (HoQ W0 w5 p i x1.e bb) := HVV.out.past h1.below; clear h1 h2 HVV) | (have hgo := O5.out; clear hgo; at_builtin; refine wpList_own qactEl (w0 := v2) rfl (.tmp 68) (.tmp 69) rfl _ i ZA ZB rfl O5.out _ _ _ rfl LZB.out (LB.out _ (HBV.out.trans (O5.out.below.mono HBV.out.size))) OZB.out NZB.out (i + len2) rfl (by omega) (ZA ++ ZB) rfl ?_; intro a6 c6 w6 h1 h2; have O6 : Hid (OwnB 55 18 v2 w6 (.slice a6 (i + len2) c6) (i + len2) (ZA ++ ZB)) := h1; have H6 : Hid (HoQ W0 w6 p i x1.e bb) := HV.out.past h1.below; obtain ⟨g6, rfl, hc6⟩ := own_some h1.own (by omega); have QA : Hid (QActAt w6 g6 (i * 18) y) := own_qact (by rw [HZ.out]; exact h1.own) HY.out; have hmi := QMine.made w6 55 zeroQ; rw [zeroQ_cells] at hmi; have HMI : Hid _ := hmi; clear h1 h2 hmi O5 H5) | ((with_reducible show wpList _ _ _ (Oper.mk (some 73) _ _ _ _ _ :: _) _ _); refine wpList_load_qact 73 (by rfl) (by rfl) _ (by rfl) g6 (i * 18) (by rfl) y QA.out ?_) | (have hgo := HMI.out; clear hgo; refine wpList_store_qact (.tmp 11) (by rfl) _ (by rfl) w6.heap.size zeroQ y (by rfl) (by rfl) HMI.out ?_; intro u2 hu; have HQ2 : Hid (QMine u2 w6.heap.size y) := hu ▸ HMI.out.store; have HB2 : Below w6.heap.size w6 u2 := hu ▸ below_cells (Nat.le_refl _) ((Below.refl _ _).alloc (Nat.le_refl _) _); have HS2 : Hid (HoQ W0 u2 p i x1.e bb) := H6.out.past HB2; obtain ⟨x0, x1_, x6, x7, x8⟩ := FQ.out u2 w6.heap.size HQ2.out; obtain ⟨e0, e3, e4, e5⟩ := EB.out u2 HS2.out.below; clear hu HMI HB2 H6) | (have hgo := HS2.out; clear hgo; go_at_call 22; refine (CLG.out _ HS2.out.below).mono ?_; rintro e v3 ⟨rfl, hv3⟩; obtain rfl := hv3.symm))
                            go_roundw
                            case rel => exact ⟨i + 1, by go_num, by omega, (by show HoQ _ _ _ _ _ _; rw [HBN.out]; exact H4.out)⟩
                            case measure => simp [intOf]; omega
                          · subst ho
                            have CC2 := CCO.out (fun _ => hne)
                            have CC3 : Hid _ := CC2
                            clear CC2
                            go_wp2_with (first | (have hgo := HS2.out; clear hgo; go_at_call 12; refine (CC3.out _ HS2.out).mono ?_; rintro e v4 ⟨⟨z, rfl⟩, H4⟩) | ((with_reducible show wpList _ _ _ (Oper.mk (some 62) _ _ _ _ _ :: _) _ _); refine wpList_load_pent 62 (by rfl) (by rfl) _ (by rfl) w.heap.size 0 (by rfl) x1 (EA.out _ HC.out.below) ?_) | (go_at_call 10; refine (CZ.out wr (Below.refl _ _)).mono ?_; rintro e v2 ⟨rfl, H2⟩; clear CZ HC; have HV : Hid (HoQ W0 v2 p i x1.e bb) := (by have := H2.out; rw [decide_eq_true rfl] at this; rw [hbb]; exact this); have HBV : Hid (Below W0.heap.size W0 v2) := HV.out.below; have HVV : Hid (HoQ W0 v2 p i x1.e bb) := HV.out; clear H2) | (have hgo := HVV.out; clear hgo; at_builtin; refine wpList_own qactEl (w0 := v2) rfl (.tmp 66) (.tmp 67) rfl _ 0 [] ZA rfl (own_mt 55 18 v2) _ _ _ rfl LZA.out (LA.out _ (HBV.out.trans ((own_mt 55 18 v2).below.mono HBV.out.size))) OZA.out NZA.out i (Nat.zero_add _) (by omega) ZA (List.nil_append _) ?_; intro a5 c5 w5 h1 h2; have O5 : Hid (OwnB 55 18 v2 w5 (.slice a5 i c5) i ZA) := h1; have H5 : Hid (HoQ W0 w5 p i x1.e bb) := HVV.out.past h1.below; clear h1 h2 HVV) | (have hgo := O5.out; clear hgo; at_builtin; refine wpList_own qactEl (w0 := v2) rfl (.tmp 68) (.tmp 69) rfl _ i ZA ZB rfl O5.out _ _ _ rfl LZB.out (LB.out _ (HBV.out.trans (O5.out.below.mono HBV.out.size))) OZB.out NZB.out (i + len2) rfl (by omega) (ZA ++ ZB) rfl ?_; intro a6 c6 w6 h1 h2; have O6 : Hid (OwnB 55 18 v2 w6 (.slice a6 (i + len2) c6) (i + len2) (ZA ++ ZB)) := h1; have H6 : Hid (HoQ W0 w6 p i x1.e bb) := HV.out.past h1.below; obtain ⟨g6, rfl, hc6⟩ := own_some h1.own (by omega); have QA : Hid (QActAt w6 g6 (i * 18) y) := own_qact (by rw [HZ.out]; exact h1.own) HY.out; have hmi := QMine.made w6 55 zeroQ; rw [zeroQ_cells] at hmi; have HMI : Hid _ := hmi; clear h1 h2 hmi O5 H5) | ((with_reducible show wpList _ _ _ (Oper.mk (some 73) _ _ _ _ _ :: _) _ _); refine wpList_load_qact 73 (by rfl) (by rfl) _ (by rfl) g6 (i * 18) (by rfl) y QA.out ?_) | (have hgo := HMI.out; clear hgo; refine wpList_store_qact (.tmp 11) (by rfl) _ (by rfl) w6.heap.size zeroQ y (by rfl) (by rfl) HMI.out ?_; intro u2 hu; have HQ2 : Hid (QMine u2 w6.heap.size y) := hu ▸ HMI.out.store; have HB2 : Below w6.heap.size w6 u2 := hu ▸ below_cells (Nat.le_refl _) ((Below.refl _ _).alloc (Nat.le_refl _) _); have HS2 : Hid (HoQ W0 u2 p i x1.e bb) := H6.out.past HB2; obtain ⟨x0, x1_, x6, x7, x8⟩ := FQ.out u2 w6.heap.size HQ2.out; obtain ⟨e0, e3, e4, e5⟩ := EB.out u2 HS2.out.below; clear hu HMI HB2 H6) | (have hgo := HS2.out; clear hgo; go_at_call 22; refine (CLG.out _ HS2.out.below).mono ?_; rintro e v3 ⟨rfl, hv3⟩; obtain rfl := hv3.symm))
                            go_roundw
                            case rel => exact ⟨i + 1, by go_num, by omega, (by show HoQ _ _ _ _ _ _; rw [HBN.out]; exact H4.out)⟩
                            case measure => simp [intOf]; omega
                          · subst ho
                            have CC2 := CAB.out (fun _ => hne)
                            have CC3 : Hid _ := CC2
                            clear CC2
                            go_wp2_with (first | (have hgo := HS2.out; clear hgo; go_at_call 17; refine (CC3.out _ HS2.out).mono ?_; rintro e v4 ⟨⟨z, rfl⟩, H4⟩) | ((with_reducible show wpList _ _ _ (Oper.mk (some 62) _ _ _ _ _ :: _) _ _); refine wpList_load_pent 62 (by rfl) (by rfl) _ (by rfl) w.heap.size 0 (by rfl) x1 (EA.out _ HC.out.below) ?_) | (go_at_call 10; refine (CZ.out wr (Below.refl _ _)).mono ?_; rintro e v2 ⟨rfl, H2⟩; clear CZ HC; have HV : Hid (HoQ W0 v2 p i x1.e bb) := (by have := H2.out; rw [decide_eq_true rfl] at this; rw [hbb]; exact this); have HBV : Hid (Below W0.heap.size W0 v2) := HV.out.below; have HVV : Hid (HoQ W0 v2 p i x1.e bb) := HV.out; clear H2) | (have hgo := HVV.out; clear hgo; at_builtin; refine wpList_own qactEl (w0 := v2) rfl (.tmp 66) (.tmp 67) rfl _ 0 [] ZA rfl (own_mt 55 18 v2) _ _ _ rfl LZA.out (LA.out _ (HBV.out.trans ((own_mt 55 18 v2).below.mono HBV.out.size))) OZA.out NZA.out i (Nat.zero_add _) (by omega) ZA (List.nil_append _) ?_; intro a5 c5 w5 h1 h2; have O5 : Hid (OwnB 55 18 v2 w5 (.slice a5 i c5) i ZA) := h1; have H5 : Hid (HoQ W0 w5 p i x1.e bb) := HVV.out.past h1.below; clear h1 h2 HVV) | (have hgo := O5.out; clear hgo; at_builtin; refine wpList_own qactEl (w0 := v2) rfl (.tmp 68) (.tmp 69) rfl _ i ZA ZB rfl O5.out _ _ _ rfl LZB.out (LB.out _ (HBV.out.trans (O5.out.below.mono HBV.out.size))) OZB.out NZB.out (i + len2) rfl (by omega) (ZA ++ ZB) rfl ?_; intro a6 c6 w6 h1 h2; have O6 : Hid (OwnB 55 18 v2 w6 (.slice a6 (i + len2) c6) (i + len2) (ZA ++ ZB)) := h1; have H6 : Hid (HoQ W0 w6 p i x1.e bb) := HV.out.past h1.below; obtain ⟨g6, rfl, hc6⟩ := own_some h1.own (by omega); have QA : Hid (QActAt w6 g6 (i * 18) y) := own_qact (by rw [HZ.out]; exact h1.own) HY.out; have hmi := QMine.made w6 55 zeroQ; rw [zeroQ_cells] at hmi; have HMI : Hid _ := hmi; clear h1 h2 hmi O5 H5) | ((with_reducible show wpList _ _ _ (Oper.mk (some 73) _ _ _ _ _ :: _) _ _); refine wpList_load_qact 73 (by rfl) (by rfl) _ (by rfl) g6 (i * 18) (by rfl) y QA.out ?_) | (have hgo := HMI.out; clear hgo; refine wpList_store_qact (.tmp 11) (by rfl) _ (by rfl) w6.heap.size zeroQ y (by rfl) (by rfl) HMI.out ?_; intro u2 hu; have HQ2 : Hid (QMine u2 w6.heap.size y) := hu ▸ HMI.out.store; have HB2 : Below w6.heap.size w6 u2 := hu ▸ below_cells (Nat.le_refl _) ((Below.refl _ _).alloc (Nat.le_refl _) _); have HS2 : Hid (HoQ W0 u2 p i x1.e bb) := H6.out.past HB2; obtain ⟨x0, x1_, x6, x7, x8⟩ := FQ.out u2 w6.heap.size HQ2.out; obtain ⟨e0, e3, e4, e5⟩ := EB.out u2 HS2.out.below; clear hu HMI HB2 H6) | (have hgo := HS2.out; clear hgo; go_at_call 22; refine (CLG.out _ HS2.out.below).mono ?_; rintro e v3 ⟨rfl, hv3⟩; obtain rfl := hv3.symm))
                            go_roundw
                            case rel => exact ⟨i + 1, by go_num, by omega, (by show HoQ _ _ _ _ _ _; rw [HBN.out]; exact H4.out)⟩
                            case measure => simp [intOf]; omega
                          · have bo0 : (op == 0) = false := by simpa using ho.1
                            have bo1 : (op == 1) = false := by simpa using ho.2.1
                            have bo2 : (op == 2) = false := by simpa using ho.2.2
                            clear ho
                            go_wp2_with (first | ((with_reducible show wpList _ _ _ (Oper.mk (some 62) _ _ _ _ _ :: _) _ _); refine wpList_load_pent 62 (by rfl) (by rfl) _ (by rfl) w.heap.size 0 (by rfl) x1 (EA.out _ HC.out.below) ?_) | (go_at_call 10; refine (CZ.out wr (Below.refl _ _)).mono ?_; rintro e v2 ⟨rfl, H2⟩; clear CZ HC; have HV : Hid (HoQ W0 v2 p i x1.e bb) := (by have := H2.out; rw [decide_eq_true rfl] at this; rw [hbb]; exact this); have HBV : Hid (Below W0.heap.size W0 v2) := HV.out.below; have HVV : Hid (HoQ W0 v2 p i x1.e bb) := HV.out; clear H2) | (have hgo := HVV.out; clear hgo; at_builtin; refine wpList_own qactEl (w0 := v2) rfl (.tmp 66) (.tmp 67) rfl _ 0 [] ZA rfl (own_mt 55 18 v2) _ _ _ rfl LZA.out (LA.out _ (HBV.out.trans ((own_mt 55 18 v2).below.mono HBV.out.size))) OZA.out NZA.out i (Nat.zero_add _) (by omega) ZA (List.nil_append _) ?_; intro a5 c5 w5 h1 h2; have O5 : Hid (OwnB 55 18 v2 w5 (.slice a5 i c5) i ZA) := h1; have H5 : Hid (HoQ W0 w5 p i x1.e bb) := HVV.out.past h1.below; clear h1 h2 HVV) | (have hgo := O5.out; clear hgo; at_builtin; refine wpList_own qactEl (w0 := v2) rfl (.tmp 68) (.tmp 69) rfl _ i ZA ZB rfl O5.out _ _ _ rfl LZB.out (LB.out _ (HBV.out.trans (O5.out.below.mono HBV.out.size))) OZB.out NZB.out (i + len2) rfl (by omega) (ZA ++ ZB) rfl ?_; intro a6 c6 w6 h1 h2; have O6 : Hid (OwnB 55 18 v2 w6 (.slice a6 (i + len2) c6) (i + len2) (ZA ++ ZB)) := h1; have H6 : Hid (HoQ W0 w6 p i x1.e bb) := HV.out.past h1.below; obtain ⟨g6, rfl, hc6⟩ := own_some h1.own (by omega); have QA : Hid (QActAt w6 g6 (i * 18) y) := own_qact (by rw [HZ.out]; exact h1.own) HY.out; have hmi := QMine.made w6 55 zeroQ; rw [zeroQ_cells] at hmi; have HMI : Hid _ := hmi; clear h1 h2 hmi O5 H5) | ((with_reducible show wpList _ _ _ (Oper.mk (some 73) _ _ _ _ _ :: _) _ _); refine wpList_load_qact 73 (by rfl) (by rfl) _ (by rfl) g6 (i * 18) (by rfl) y QA.out ?_) | (have hgo := HMI.out; clear hgo; refine wpList_store_qact (.tmp 11) (by rfl) _ (by rfl) w6.heap.size zeroQ y (by rfl) (by rfl) HMI.out ?_; intro u2 hu; have HQ2 : Hid (QMine u2 w6.heap.size y) := hu ▸ HMI.out.store; have HB2 : Below w6.heap.size w6 u2 := hu ▸ below_cells (Nat.le_refl _) ((Below.refl _ _).alloc (Nat.le_refl _) _); have HS2 : Hid (HoQ W0 u2 p i x1.e bb) := H6.out.past HB2; obtain ⟨x0, x1_, x6, x7, x8⟩ := FQ.out u2 w6.heap.size HQ2.out; obtain ⟨e0, e3, e4, e5⟩ := EB.out u2 HS2.out.below; clear hu HMI HB2 H6) | (have hgo := HS2.out; clear hgo; go_at_call 22; refine (CLG.out _ HS2.out.below).mono ?_; rintro e v3 ⟨rfl, hv3⟩; obtain rfl := hv3.symm))
                            go_roundw
                            case rel => exact ⟨i + 1, by go_num, by omega, (by show HoQ _ _ _ _ _ _; rw [HBN.out]; exact (HS2.out.up (Nat.le_succ _)))⟩
                            case measure => simp [intOf]; omega
                    · have bz : (z == 0) = false := by simpa using hz
                      clear hz
                      go_wp2_with (first | ((with_reducible show wpList _ _ _ (Oper.mk (some 62) _ _ _ _ _ :: _) _ _); refine wpList_load_pent 62 (by rfl) (by rfl) _ (by rfl) w.heap.size 0 (by rfl) x1 (EA.out _ HC.out.below) ?_) | (go_at_call 10; refine (CZ.out wr (Below.refl _ _)).mono ?_; rintro e v2 ⟨rfl, H2⟩; clear CZ HC))
                      go_ret
                      exact ⟨rfl, HBW0.out _ H2.out.below⟩
                  · have h1 : (i : Int) < (len0 : Int) + (len2 : Int) := by omega
                    have h1n : (i : Int) < ((len0 + len2 : Nat) : Int) := by omega
                    have hge : (len0 : Int) ≤ (i : Int) := by omega
                    have bie : ((i : Int) == (len0 : Int)) = false := by simp; omega
                    obtain ⟨bb, hbb⟩ : ∃ b, b = true := ⟨_, rfl⟩
                    have HV : Hid (HoQ W0 wr p i x1.e bb) := by have := HC.out; rw [decide_eq_true (by omega)] at this; rw [hbb]; exact this
                    have HBB : Hid (bb = decide (len0 < i + 1)) := by show _ = _; rw [hbb, decide_eq_true (by omega)]
                    have HBV : Hid (Below W0.heap.size W0 wr) := HV.out.below
                    have HVV : Hid (HoQ W0 wr p i x1.e bb) := HV.out
                    obtain ⟨y, hy⟩ : ∃ y, (z0 ++ z2)[i]? = some y := ⟨_, List.getElem?_eq_getElem (by rw [List.length_append, HL.out, HL2.out]; exact hlt)⟩
                    have HY : Hid ((z0 ++ z2)[i]? = some y) := hy
                    have hok : QActOk w y := by rcases List.mem_append.1 (List.mem_of_getElem? hy) with e | e; exact HA.out.oks y e; exact HA2.out.oks y e
                    have HOK : Hid (QActOk w y) := hok
                    obtain ⟨lg, hlg⟩ : ∃ g, g = longQ y.x.e.l := ⟨_, rfl⟩
                    have HLG : Hid (lg = longQ y.x.e.l) := hlg
                    obtain ⟨M, hM⟩ : ∃ N, N = y.x.e.l.length := ⟨_, rfl⟩
                    obtain ⟨ya, hya⟩ : ∃ t, t = y.x.a := ⟨_, rfl⟩
                    obtain ⟨yc, hyc⟩ : ∃ t, t = y.x.c := ⟨_, rfl⟩
                    obtain ⟨op, hop⟩ : ∃ t, t = y.op := ⟨_, rfl⟩
                    obtain ⟨id, hid⟩ : ∃ t, t = y.x.e.id := ⟨_, rfl⟩
                    obtain ⟨t, ht⟩ : ∃ t, t = y.t := ⟨_, rfl⟩
                    obtain ⟨n, hn⟩ : ∃ t, t = y.n := ⟨_, rfl⟩
                    have CLG : Hid (∀ u, Below W0.heap.size W0 u → Calls Tryz.prog 22 #[.slice ya M yc] u fun e w' => e = .returned (.bool lg) ∧ w' = u) := fun u hb => by rw [hya, hM, hyc, hlg]; exact qlong_any y.x.a y.x.e.l.length y.x.c y.x.e.l u rfl hok.ent.wr.room hok.ent.wr.few (hok.ent.wr.at_.past (HBW0.out u hb))
                    have FQ : Hid (∀ u c, QMine u c y → u.cell? ⟨c, 0, none⟩ = some (.int .i64 op) ∧ u.cell? ⟨c, 1, none⟩ = some (.int .i64 id) ∧ u.cell? ⟨c, 6, none⟩ = some (.slice ya M yc) ∧ u.cell? ⟨c, 7, none⟩ = some (.int .i64 t) ∧ u.cell? ⟨c, 8, none⟩ = some (.int .u8 n)) := fun u c hm => by
                      have h1 := hm.at_.ent.cells
                      have h2 := hm.at_.st
                      rw [Nat.zero_add] at h1 h2
                      rw [hop, hid, hya, hM, hyc, ht, hn]
                      exact ⟨hm.at_.op, h1.1, h1.2.2.2.2.2, h2.1, h2.2⟩
                    have CPR : Hid (lg = false → ∀ u, HoQ W0 u p i x1.e bb → Calls Tryz.prog 10 #[.pointer (some ⟨p, 0, none⟩), ev y.x] u fun e w' => (∃ z : Int, e = .returned (.int .i64 z)) ∧ Hid (HoQ W0 w' p (i + 1) x1.e bb)) := fun hg u h => by
                      refine (hoq_prep h y.x (HOK.out.ent.w (HBW0.out u h.below) (by rw [← HLG.out]; exact hg))).mono ?_
                      rintro e w' ⟨h1, h2⟩
                      exact ⟨h1, h2.up (Nat.le_succ _)⟩
                    have CCO : Hid ((bb = true → id ≠ xid) → ∀ u, HoQ W0 u p i x1.e bb → Calls Tryz.prog 12 #[.pointer (some ⟨p, 0, none⟩), .int .i64 id, .agg #[.int .i64 t, .int .u8 n]] u fun e w' => (∃ z : Int, e = .returned (.int .i64 z)) ∧ Hid (HoQ W0 w' p (i + 1) x1.e bb)) := fun hne u h => hoq_commit h id t n (by rw [hid]; exact HOK.out.ent.ok.id) (by rw [hn]; exact HOK.out.n) (by omega) (fun e => by rw [← HID.out]; exact hne e)
                    have CAB : Hid ((bb = true → id ≠ xid) → ∀ u, HoQ W0 u p i x1.e bb → Calls Tryz.prog 17 #[.pointer (some ⟨p, 0, none⟩), .int .i64 id] u fun e w' => (∃ z : Int, e = .returned (.int .i64 z)) ∧ Hid (HoQ W0 w' p (i + 1) x1.e bb)) := fun hne u h => hoq_abort h id (by rw [hid]; exact HOK.out.ent.ok.id) (by omega) (fun e => by rw [← HID.out]; exact hne e)
                    clear hlg hM hya hyc hop hid ht hn hok hy HOK
                    clear hbb HC
                    cases lg with
                    | true =>
                      clear CPR CCO CAB
                      go_wp2_with (first | (have hgo := HVV.out; clear hgo; at_builtin; refine wpList_own qactEl (w0 := wr) rfl (.tmp 66) (.tmp 67) rfl _ 0 [] ZA rfl (own_mt 55 18 wr) _ _ _ rfl LZA.out (LA.out _ (HBV.out.trans ((own_mt 55 18 wr).below.mono HBV.out.size))) OZA.out NZA.out len0 (Nat.zero_add _) (by omega) ZA (List.nil_append _) ?_; intro a5 c5 w5 h1 h2; have O5 : Hid (OwnB 55 18 wr w5 (.slice a5 len0 c5) len0 ZA) := h1; have H5 : Hid (HoQ W0 w5 p i x1.e bb) := HVV.out.past h1.below; clear h1 h2 HVV) | (have hgo := O5.out; clear hgo; at_builtin; refine wpList_own qactEl (w0 := wr) rfl (.tmp 68) (.tmp 69) rfl _ len0 ZA ZB rfl O5.out _ _ _ rfl LZB.out (LB.out _ (HBV.out.trans (O5.out.below.mono HBV.out.size))) OZB.out NZB.out (len0 + len2) rfl (by omega) (ZA ++ ZB) rfl ?_; intro a6 c6 w6 h1 h2; have O6 : Hid (OwnB 55 18 wr w6 (.slice a6 (len0 + len2) c6) (len0 + len2) (ZA ++ ZB)) := h1; have H6 : Hid (HoQ W0 w6 p i x1.e bb) := HV.out.past h1.below; obtain ⟨g6, rfl, hc6⟩ := own_some h1.own (by omega); have QA : Hid (QActAt w6 g6 (i * 18) y) := own_qact (by rw [HZ.out]; exact h1.own) HY.out; have hmi := QMine.made w6 55 zeroQ; rw [zeroQ_cells] at hmi; have HMI : Hid _ := hmi; clear h1 h2 hmi O5 H5) | ((with_reducible show wpList _ _ _ (Oper.mk (some 73) _ _ _ _ _ :: _) _ _); refine wpList_load_qact 73 (by rfl) (by rfl) _ (by rfl) g6 (i * 18) (by rfl) y QA.out ?_) | (have hgo := HMI.out; clear hgo; refine wpList_store_qact (.tmp 11) (by rfl) _ (by rfl) w6.heap.size zeroQ y (by rfl) (by rfl) HMI.out ?_; intro u2 hu; have HQ2 : Hid (QMine u2 w6.heap.size y) := hu ▸ HMI.out.store; have HB2 : Below w6.heap.size w6 u2 := hu ▸ below_cells (Nat.le_refl _) ((Below.refl _ _).alloc (Nat.le_refl _) _); have HS2 : Hid (HoQ W0 u2 p i x1.e bb) := H6.out.past HB2; obtain ⟨x0, x1_, x6, x7, x8⟩ := FQ.out u2 w6.heap.size HQ2.out; obtain ⟨e0, e3, e4, e5⟩ := EB.out u2 HS2.out.below; clear hu HMI HB2 H6) | (have hgo := HS2.out; clear hgo; go_at_call 22; refine (CLG.out _ HS2.out.below).mono ?_; rintro e v3 ⟨rfl, hv3⟩; obtain rfl := hv3.symm))
                      go_ret
                      exact ⟨rfl, HBW0.out _ HS2.out.below⟩
                    | false =>
                      have CP2 := CPR.out rfl
                      have CP3 : Hid _ := CP2
                      have hi1 : decide (len0 < i + 1) = bb := HBB.out.symm
                      have HBN : Hid (decide (len0 < i + 1) = bb) := hi1
                      clear CP2 CPR hi1
                      by_cases hne : id = xid
                      · subst hne
                        go_wp2_with (first | (have hgo := HVV.out; clear hgo; at_builtin; refine wpList_own qactEl (w0 := wr) rfl (.tmp 66) (.tmp 67) rfl _ 0 [] ZA rfl (own_mt 55 18 wr) _ _ _ rfl LZA.out (LA.out _ (HBV.out.trans ((own_mt 55 18 wr).below.mono HBV.out.size))) OZA.out NZA.out len0 (Nat.zero_add _) (by omega) ZA (List.nil_append _) ?_; intro a5 c5 w5 h1 h2; have O5 : Hid (OwnB 55 18 wr w5 (.slice a5 len0 c5) len0 ZA) := h1; have H5 : Hid (HoQ W0 w5 p i x1.e bb) := HVV.out.past h1.below; clear h1 h2 HVV) | (have hgo := O5.out; clear hgo; at_builtin; refine wpList_own qactEl (w0 := wr) rfl (.tmp 68) (.tmp 69) rfl _ len0 ZA ZB rfl O5.out _ _ _ rfl LZB.out (LB.out _ (HBV.out.trans (O5.out.below.mono HBV.out.size))) OZB.out NZB.out (len0 + len2) rfl (by omega) (ZA ++ ZB) rfl ?_; intro a6 c6 w6 h1 h2; have O6 : Hid (OwnB 55 18 wr w6 (.slice a6 (len0 + len2) c6) (len0 + len2) (ZA ++ ZB)) := h1; have H6 : Hid (HoQ W0 w6 p i x1.e bb) := HV.out.past h1.below; obtain ⟨g6, rfl, hc6⟩ := own_some h1.own (by omega); have QA : Hid (QActAt w6 g6 (i * 18) y) := own_qact (by rw [HZ.out]; exact h1.own) HY.out; have hmi := QMine.made w6 55 zeroQ; rw [zeroQ_cells] at hmi; have HMI : Hid _ := hmi; clear h1 h2 hmi O5 H5) | ((with_reducible show wpList _ _ _ (Oper.mk (some 73) _ _ _ _ _ :: _) _ _); refine wpList_load_qact 73 (by rfl) (by rfl) _ (by rfl) g6 (i * 18) (by rfl) y QA.out ?_) | (have hgo := HMI.out; clear hgo; refine wpList_store_qact (.tmp 11) (by rfl) _ (by rfl) w6.heap.size zeroQ y (by rfl) (by rfl) HMI.out ?_; intro u2 hu; have HQ2 : Hid (QMine u2 w6.heap.size y) := hu ▸ HMI.out.store; have HB2 : Below w6.heap.size w6 u2 := hu ▸ below_cells (Nat.le_refl _) ((Below.refl _ _).alloc (Nat.le_refl _) _); have HS2 : Hid (HoQ W0 u2 p i x1.e bb) := H6.out.past HB2; obtain ⟨x0, x1_, x6, x7, x8⟩ := FQ.out u2 w6.heap.size HQ2.out; obtain ⟨e0, e3, e4, e5⟩ := EB.out u2 HS2.out.below; clear hu HMI HB2 H6) | (have hgo := HS2.out; clear hgo; go_at_call 22; refine (CLG.out _ HS2.out.below).mono ?_; rintro e v3 ⟨rfl, hv3⟩; obtain rfl := hv3.symm))
                        go_roundw
                        case rel => exact ⟨i + 1, by go_num, by omega, (by show HoQ _ _ _ _ _ _; rw [HBN.out]; exact (HS2.out.up (Nat.le_succ _)))⟩
                        case measure => simp [intOf]; omega
                      · have bne : (id == xid) = false := by simpa using hne
                        have h4 : op = 0 ∨ op = 1 ∨ op = 2 ∨ (op ≠ 0 ∧ op ≠ 1 ∧ op ≠ 2) := by omega
                        rcases h4 with ho | ho | ho | ho
                        · subst ho
                          go_wp2_with (first | ((with_reducible show wpList _ _ _ (Oper.mk (some 96) _ _ _ _ _ :: _) _ _); refine wpList_load_pent 96 (by rfl) (by rfl) _ (by rfl) w6.heap.size 1 (by rfl) y.x HQ2.out.at_.ent ?_) | (have hgo := HS2.out; clear hgo; go_at_call 10; refine (CP3.out _ HS2.out).mono ?_; rintro e v4 ⟨⟨z, rfl⟩, H4⟩) | (have hgo := HVV.out; clear hgo; at_builtin; refine wpList_own qactEl (w0 := wr) rfl (.tmp 66) (.tmp 67) rfl _ 0 [] ZA rfl (own_mt 55 18 wr) _ _ _ rfl LZA.out (LA.out _ (HBV.out.trans ((own_mt 55 18 wr).below.mono HBV.out.size))) OZA.out NZA.out len0 (Nat.zero_add _) (by omega) ZA (List.nil_append _) ?_; intro a5 c5 w5 h1 h2; have O5 : Hid (OwnB 55 18 wr w5 (.slice a5 len0 c5) len0 ZA) := h1; have H5 : Hid (HoQ W0 w5 p i x1.e bb) := HVV.out.past h1.below; clear h1 h2 HVV) | (have hgo := O5.out; clear hgo; at_builtin; refine wpList_own qactEl (w0 := wr) rfl (.tmp 68) (.tmp 69) rfl _ len0 ZA ZB rfl O5.out _ _ _ rfl LZB.out (LB.out _ (HBV.out.trans (O5.out.below.mono HBV.out.size))) OZB.out NZB.out (len0 + len2) rfl (by omega) (ZA ++ ZB) rfl ?_; intro a6 c6 w6 h1 h2; have O6 : Hid (OwnB 55 18 wr w6 (.slice a6 (len0 + len2) c6) (len0 + len2) (ZA ++ ZB)) := h1; have H6 : Hid (HoQ W0 w6 p i x1.e bb) := HV.out.past h1.below; obtain ⟨g6, rfl, hc6⟩ := own_some h1.own (by omega); have QA : Hid (QActAt w6 g6 (i * 18) y) := own_qact (by rw [HZ.out]; exact h1.own) HY.out; have hmi := QMine.made w6 55 zeroQ; rw [zeroQ_cells] at hmi; have HMI : Hid _ := hmi; clear h1 h2 hmi O5 H5) | ((with_reducible show wpList _ _ _ (Oper.mk (some 73) _ _ _ _ _ :: _) _ _); refine wpList_load_qact 73 (by rfl) (by rfl) _ (by rfl) g6 (i * 18) (by rfl) y QA.out ?_) | (have hgo := HMI.out; clear hgo; refine wpList_store_qact (.tmp 11) (by rfl) _ (by rfl) w6.heap.size zeroQ y (by rfl) (by rfl) HMI.out ?_; intro u2 hu; have HQ2 : Hid (QMine u2 w6.heap.size y) := hu ▸ HMI.out.store; have HB2 : Below w6.heap.size w6 u2 := hu ▸ below_cells (Nat.le_refl _) ((Below.refl _ _).alloc (Nat.le_refl _) _); have HS2 : Hid (HoQ W0 u2 p i x1.e bb) := H6.out.past HB2; obtain ⟨x0, x1_, x6, x7, x8⟩ := FQ.out u2 w6.heap.size HQ2.out; obtain ⟨e0, e3, e4, e5⟩ := EB.out u2 HS2.out.below; clear hu HMI HB2 H6) | (have hgo := HS2.out; clear hgo; go_at_call 22; refine (CLG.out _ HS2.out.below).mono ?_; rintro e v3 ⟨rfl, hv3⟩; obtain rfl := hv3.symm))
                          go_roundw
                          case rel => exact ⟨i + 1, by go_num, by omega, (by show HoQ _ _ _ _ _ _; rw [HBN.out]; exact H4.out)⟩
                          case measure => simp [intOf]; omega
                        · subst ho
                          have CC2 := CCO.out (fun _ => hne)
                          have CC3 : Hid _ := CC2
                          clear CC2
                          go_wp2_with (first | (have hgo := HS2.out; clear hgo; go_at_call 12; refine (CC3.out _ HS2.out).mono ?_; rintro e v4 ⟨⟨z, rfl⟩, H4⟩) | (have hgo := HVV.out; clear hgo; at_builtin; refine wpList_own qactEl (w0 := wr) rfl (.tmp 66) (.tmp 67) rfl _ 0 [] ZA rfl (own_mt 55 18 wr) _ _ _ rfl LZA.out (LA.out _ (HBV.out.trans ((own_mt 55 18 wr).below.mono HBV.out.size))) OZA.out NZA.out len0 (Nat.zero_add _) (by omega) ZA (List.nil_append _) ?_; intro a5 c5 w5 h1 h2; have O5 : Hid (OwnB 55 18 wr w5 (.slice a5 len0 c5) len0 ZA) := h1; have H5 : Hid (HoQ W0 w5 p i x1.e bb) := HVV.out.past h1.below; clear h1 h2 HVV) | (have hgo := O5.out; clear hgo; at_builtin; refine wpList_own qactEl (w0 := wr) rfl (.tmp 68) (.tmp 69) rfl _ len0 ZA ZB rfl O5.out _ _ _ rfl LZB.out (LB.out _ (HBV.out.trans (O5.out.below.mono HBV.out.size))) OZB.out NZB.out (len0 + len2) rfl (by omega) (ZA ++ ZB) rfl ?_; intro a6 c6 w6 h1 h2; have O6 : Hid (OwnB 55 18 wr w6 (.slice a6 (len0 + len2) c6) (len0 + len2) (ZA ++ ZB)) := h1; have H6 : Hid (HoQ W0 w6 p i x1.e bb) := HV.out.past h1.below; obtain ⟨g6, rfl, hc6⟩ := own_some h1.own (by omega); have QA : Hid (QActAt w6 g6 (i * 18) y) := own_qact (by rw [HZ.out]; exact h1.own) HY.out; have hmi := QMine.made w6 55 zeroQ; rw [zeroQ_cells] at hmi; have HMI : Hid _ := hmi; clear h1 h2 hmi O5 H5) | ((with_reducible show wpList _ _ _ (Oper.mk (some 73) _ _ _ _ _ :: _) _ _); refine wpList_load_qact 73 (by rfl) (by rfl) _ (by rfl) g6 (i * 18) (by rfl) y QA.out ?_) | (have hgo := HMI.out; clear hgo; refine wpList_store_qact (.tmp 11) (by rfl) _ (by rfl) w6.heap.size zeroQ y (by rfl) (by rfl) HMI.out ?_; intro u2 hu; have HQ2 : Hid (QMine u2 w6.heap.size y) := hu ▸ HMI.out.store; have HB2 : Below w6.heap.size w6 u2 := hu ▸ below_cells (Nat.le_refl _) ((Below.refl _ _).alloc (Nat.le_refl _) _); have HS2 : Hid (HoQ W0 u2 p i x1.e bb) := H6.out.past HB2; obtain ⟨x0, x1_, x6, x7, x8⟩ := FQ.out u2 w6.heap.size HQ2.out; obtain ⟨e0, e3, e4, e5⟩ := EB.out u2 HS2.out.below; clear hu HMI HB2 H6) | (have hgo := HS2.out; clear hgo; go_at_call 22; refine (CLG.out _ HS2.out.below).mono ?_; rintro e v3 ⟨rfl, hv3⟩; obtain rfl := hv3.symm))
                          go_roundw
                          case rel => exact ⟨i + 1, by go_num, by omega, (by show HoQ _ _ _ _ _ _; rw [HBN.out]; exact H4.out)⟩
                          case measure => simp [intOf]; omega
                        · subst ho
                          have CC2 := CAB.out (fun _ => hne)
                          have CC3 : Hid _ := CC2
                          clear CC2
                          go_wp2_with (first | (have hgo := HS2.out; clear hgo; go_at_call 17; refine (CC3.out _ HS2.out).mono ?_; rintro e v4 ⟨⟨z, rfl⟩, H4⟩) | (have hgo := HVV.out; clear hgo; at_builtin; refine wpList_own qactEl (w0 := wr) rfl (.tmp 66) (.tmp 67) rfl _ 0 [] ZA rfl (own_mt 55 18 wr) _ _ _ rfl LZA.out (LA.out _ (HBV.out.trans ((own_mt 55 18 wr).below.mono HBV.out.size))) OZA.out NZA.out len0 (Nat.zero_add _) (by omega) ZA (List.nil_append _) ?_; intro a5 c5 w5 h1 h2; have O5 : Hid (OwnB 55 18 wr w5 (.slice a5 len0 c5) len0 ZA) := h1; have H5 : Hid (HoQ W0 w5 p i x1.e bb) := HVV.out.past h1.below; clear h1 h2 HVV) | (have hgo := O5.out; clear hgo; at_builtin; refine wpList_own qactEl (w0 := wr) rfl (.tmp 68) (.tmp 69) rfl _ len0 ZA ZB rfl O5.out _ _ _ rfl LZB.out (LB.out _ (HBV.out.trans (O5.out.below.mono HBV.out.size))) OZB.out NZB.out (len0 + len2) rfl (by omega) (ZA ++ ZB) rfl ?_; intro a6 c6 w6 h1 h2; have O6 : Hid (OwnB 55 18 wr w6 (.slice a6 (len0 + len2) c6) (len0 + len2) (ZA ++ ZB)) := h1; have H6 : Hid (HoQ W0 w6 p i x1.e bb) := HV.out.past h1.below; obtain ⟨g6, rfl, hc6⟩ := own_some h1.own (by omega); have QA : Hid (QActAt w6 g6 (i * 18) y) := own_qact (by rw [HZ.out]; exact h1.own) HY.out; have hmi := QMine.made w6 55 zeroQ; rw [zeroQ_cells] at hmi; have HMI : Hid _ := hmi; clear h1 h2 hmi O5 H5) | ((with_reducible show wpList _ _ _ (Oper.mk (some 73) _ _ _ _ _ :: _) _ _); refine wpList_load_qact 73 (by rfl) (by rfl) _ (by rfl) g6 (i * 18) (by rfl) y QA.out ?_) | (have hgo := HMI.out; clear hgo; refine wpList_store_qact (.tmp 11) (by rfl) _ (by rfl) w6.heap.size zeroQ y (by rfl) (by rfl) HMI.out ?_; intro u2 hu; have HQ2 : Hid (QMine u2 w6.heap.size y) := hu ▸ HMI.out.store; have HB2 : Below w6.heap.size w6 u2 := hu ▸ below_cells (Nat.le_refl _) ((Below.refl _ _).alloc (Nat.le_refl _) _); have HS2 : Hid (HoQ W0 u2 p i x1.e bb) := H6.out.past HB2; obtain ⟨x0, x1_, x6, x7, x8⟩ := FQ.out u2 w6.heap.size HQ2.out; obtain ⟨e0, e3, e4, e5⟩ := EB.out u2 HS2.out.below; clear hu HMI HB2 H6) | (have hgo := HS2.out; clear hgo; go_at_call 22; refine (CLG.out _ HS2.out.below).mono ?_; rintro e v3 ⟨rfl, hv3⟩; obtain rfl := hv3.symm))
                          go_roundw
                          case rel => exact ⟨i + 1, by go_num, by omega, (by show HoQ _ _ _ _ _ _; rw [HBN.out]; exact H4.out)⟩
                          case measure => simp [intOf]; omega
                        · have bo0 : (op == 0) = false := by simpa using ho.1
                          have bo1 : (op == 1) = false := by simpa using ho.2.1
                          have bo2 : (op == 2) = false := by simpa using ho.2.2
                          clear ho
                          go_wp2_with (first | (have hgo := HVV.out; clear hgo; at_builtin; refine wpList_own qactEl (w0 := wr) rfl (.tmp 66) (.tmp 67) rfl _ 0 [] ZA rfl (own_mt 55 18 wr) _ _ _ rfl LZA.out (LA.out _ (HBV.out.trans ((own_mt 55 18 wr).below.mono HBV.out.size))) OZA.out NZA.out len0 (Nat.zero_add _) (by omega) ZA (List.nil_append _) ?_; intro a5 c5 w5 h1 h2; have O5 : Hid (OwnB 55 18 wr w5 (.slice a5 len0 c5) len0 ZA) := h1; have H5 : Hid (HoQ W0 w5 p i x1.e bb) := HVV.out.past h1.below; clear h1 h2 HVV) | (have hgo := O5.out; clear hgo; at_builtin; refine wpList_own qactEl (w0 := wr) rfl (.tmp 68) (.tmp 69) rfl _ len0 ZA ZB rfl O5.out _ _ _ rfl LZB.out (LB.out _ (HBV.out.trans (O5.out.below.mono HBV.out.size))) OZB.out NZB.out (len0 + len2) rfl (by omega) (ZA ++ ZB) rfl ?_; intro a6 c6 w6 h1 h2; have O6 : Hid (OwnB 55 18 wr w6 (.slice a6 (len0 + len2) c6) (len0 + len2) (ZA ++ ZB)) := h1; have H6 : Hid (HoQ W0 w6 p i x1.e bb) := HV.out.past h1.below; obtain ⟨g6, rfl, hc6⟩ := own_some h1.own (by omega); have QA : Hid (QActAt w6 g6 (i * 18) y) := own_qact (by rw [HZ.out]; exact h1.own) HY.out; have hmi := QMine.made w6 55 zeroQ; rw [zeroQ_cells] at hmi; have HMI : Hid _ := hmi; clear h1 h2 hmi O5 H5) | ((with_reducible show wpList _ _ _ (Oper.mk (some 73) _ _ _ _ _ :: _) _ _); refine wpList_load_qact 73 (by rfl) (by rfl) _ (by rfl) g6 (i * 18) (by rfl) y QA.out ?_) | (have hgo := HMI.out; clear hgo; refine wpList_store_qact (.tmp 11) (by rfl) _ (by rfl) w6.heap.size zeroQ y (by rfl) (by rfl) HMI.out ?_; intro u2 hu; have HQ2 : Hid (QMine u2 w6.heap.size y) := hu ▸ HMI.out.store; have HB2 : Below w6.heap.size w6 u2 := hu ▸ below_cells (Nat.le_refl _) ((Below.refl _ _).alloc (Nat.le_refl _) _); have HS2 : Hid (HoQ W0 u2 p i x1.e bb) := H6.out.past HB2; obtain ⟨x0, x1_, x6, x7, x8⟩ := FQ.out u2 w6.heap.size HQ2.out; obtain ⟨e0, e3, e4, e5⟩ := EB.out u2 HS2.out.below; clear hu HMI HB2 H6) | (have hgo := HS2.out; clear hgo; go_at_call 22; refine (CLG.out _ HS2.out.below).mono ?_; rintro e v3 ⟨rfl, hv3⟩; obtain rfl := hv3.symm))
                          go_roundw
                          case rel => exact ⟨i + 1, by go_num, by omega, (by show HoQ _ _ _ _ _ _; rw [HBN.out]; exact (HS2.out.up (Nat.le_succ _)))⟩
                          case measure => simp [intOf]; omega
                · obtain rfl : i = len0 + len2 := by omega
                  clear hlt
                  by_cases hm : len2 = 0
                  · have bm : ((len2 : Int) == 0) = true := by simp [hm]
                    clear hm
                    obtain ⟨z, CZ⟩ := hoq_first HC.out x1 rfl (HEX.out wr HC.out.below)
                    by_cases hz : z = 0
                    · subst hz
                      go_upto_if 122 with (first | ((with_reducible show wpList _ _ _ (Oper.mk (some 119) _ _ _ _ _ :: _) _ _); refine wpList_load_pent 119 (by rfl) (by rfl) _ (by rfl) w.heap.size 0 (by rfl) x1 (EA.out _ HC.out.below) ?_) | (go_at_call 10; refine (CZ.out wr (Below.refl _ _)).mono ?_; rintro e v2 ⟨rfl, H2⟩; have HE : Hid (HoQ W0 v2 p (len0 + len2) x1.e true) := H2.out; clear CZ HC H2))
                      have HOKS : Hid (okS (xt + a3)) := by
                        have h7 := HE.out.okS
                        rw [← HXT.out] at h7
                        show 0 ≤ xt + a3 ∧ xt + a3 ≤ 36028797018963967
                        have h8 : 0 ≤ xt := h7.1
                        omega
                      have HCM : Hid (¬ cmpS (xt + a3) xn x1.e.t x1.e.n < 0) := by
                        show ¬ _ < _
                        rw [← HXT.out, ← HXN.out, cmp_neg]
                        intro h7
                        have h8 : xt + a3 < xt ∨ xt + a3 = xt ∧ xn < xn := h7
                        omega
                      have CSA : Hid (∀ u, HoF W0 u p (len0 + len2) x1.e (fun k => k = v2.heap.size) → Calls Tryz.prog 19 #[.pointer (some ⟨p, 0, none⟩), .int .i64 xid] u fun e w' => e = .returned (.int .i64 1) ∧ Below u.heap.size u w') := fun u h => by rw [HID.out]; exact hof_state h HX.out.ok.id
                      have CCA : Hid (∀ u, HoF W0 u p (len0 + len2) x1.e (fun k => k = v2.heap.size) → Calls Tryz.prog 12 #[.pointer (some ⟨p, 0, none⟩), .int .i64 xid, .agg #[.int .i64 (xt + a3), .int .u8 xn]] u fun e w' => e = .returned (.int .i64 0) ∧ Hid (HdQ W0 w' p (len0 + len2 + 1) x1.e (xt + a3) xn) ∧ Hid (∀ k, k = v2.heap.size → w'.heap[k]? = u.heap[k]?)) := fun u h => by rw [HID.out]; exact hof_commit h (xt + a3) xn HX.out.ok.id (by rw [HXN.out]; exact HX.out.ok.n) (by omega) HOKS.out HCM.out
                      have HF : Hid (HoF W0 (v2.alloc (.cells #[.int .i64 (xt + a3), .int .u8 xn] 28)) p (len0 + len2) x1.e (fun k => k = v2.heap.size)) := HE.out.f _
                      have ST : Hid (∀ u, Below (v2.alloc (.cells #[.int .i64 (xt + a3), .int .u8 xn] 28)).heap.size (v2.alloc (.cells #[.int .i64 (xt + a3), .int .u8 xn] 28)) u → u.cell? ⟨v2.heap.size, 0, none⟩ = some (.int .i64 (xt + a3)) ∧ u.cell? ⟨v2.heap.size, 1, none⟩ = some (.int .u8 xn)) := fun u hu => ⟨(hu.cell (p := ⟨v2.heap.size, 0, none⟩) (by show v2.heap.size < _; simp)).trans (by rw [World.cell?_alloc_new]; rfl), (hu.cell (p := ⟨v2.heap.size, 1, none⟩) (by show v2.heap.size < _; simp)).trans (by rw [World.cell?_alloc_new]; rfl)⟩
                      obtain ⟨e0, e3, e4, e5⟩ := EB.out v2 HE.out.below
                      obtain ⟨f0, f3, f4, f5⟩ := EB.out (v2.alloc (.cells #[.int .i64 (xt + a3), .int .u8 xn] 28)) (HE.out.below.alloc HE.out.below.size _)
                      go_wp2_with (first | (have hgo := HF.out; clear hgo; go_at_call 19; refine (CSA.out _ HF.out).mono ?_; rintro e v5 ⟨rfl, hb5⟩; have HF5 : Hid (HoF W0 v5 p (len0 + len2) x1.e (fun k => k = v2.heap.size)) := HF.out.past hb5; have hst5 := ST.out v5 hb5; obtain ⟨s0, s1⟩ := hst5; obtain ⟨e0, e3, e4, e5⟩ := EB.out v5 HF5.out.below; have HST5 : Hid (v5.cell? ⟨v2.heap.size, 0, none⟩ = some (.int .i64 (xt + a3)) ∧ v5.cell? ⟨v2.heap.size, 1, none⟩ = some (.int .u8 xn)) := ⟨s0, s1⟩; clear hb5 HF CSA) | (have hgo := HF5.out; clear hgo; go_at_call 12; refine (CCA.out _ HF5.out).mono ?_; rintro e v6 ⟨rfl, HD, hkp⟩; have HST6 : Hid (v6.cell? ⟨v2.heap.size, 0, none⟩ = some (.int .i64 (xt + a3)) ∧ v6.cell? ⟨v2.heap.size, 1, none⟩ = some (.int .u8 xn)) := ⟨(cell_kept (hkp.out v2.heap.size rfl) 0).trans HST5.out.1, (cell_kept (hkp.out v2.heap.size rfl) 1).trans HST5.out.2⟩; clear hkp HF5 HST5 CCA s0 s1))
                      have HBD : Hid (Below W0.heap.size W0 v6) := HD.out.below
                      go_loopw [13] (fun iv wr => ∃ z : Nat, iv = .int .i64 z ∧ z ≤ N ∧ Hid (Below v6.heap.size v6 wr)) (fun iv _ => N - (intOf iv).toNat)
                      case atStart => exact ⟨0, rfl, Nat.zero_le _, Below.refl _ _⟩
                      case round =>
                        obtain ⟨z, rfl, hz, HB⟩ := hrel
                        have hz0 : (0 : Int) ≤ (z : Int) := by omega
                        have FE : Hid (∀ u, Below wr.heap.size wr u → u.cell? ⟨w.heap.size, 0, none⟩ = some (.int .i64 xid) ∧ u.cell? ⟨w.heap.size, 5, none⟩ = some (.slice xa N xc) ∧ u.cell? ⟨v2.heap.size, 0, none⟩ = some (.int .i64 (xt + a3)) ∧ u.cell? ⟨v2.heap.size, 1, none⟩ = some (.int .u8 xn)) := fun u hu => by
                          have hb := HB.out.trans (hu.mono HB.out.size)
                          have h1 := EB.out u (HBD.out.trans (hb.mono HBD.out.size))
                          exact ⟨h1.1, h1.2.2.2, (hb.cell (p := ⟨v2.heap.size, 0, none⟩) (cell_lt HST6.out.1)).trans HST6.out.1, (hb.cell (p := ⟨v2.heap.size, 1, none⟩) (cell_lt HST6.out.1)).trans HST6.out.2⟩
                        obtain ⟨r0, r5, r6, r7⟩ := FE.out wr (Below.refl _ _)
                        by_cases hzl : z < N
                        · have h2 : (z : Int) < (N : Int) := by omega
                          obtain ⟨G, hG⟩ : ∃ G, x1.e.l[z]? = some G := ⟨_, List.getElem?_eq_getElem (by rw [HNN.out]; exact hzl)⟩
                          have hXW := HEX.out wr (HBD.out.trans (HB.out.mono HBD.out.size))
                          obtain ⟨wb, wo, hwb, hwa, hwo⟩ := hXW.wr.wrt hG
                          have hxa2 : xa = some ⟨wb, wo, none⟩ := by rw [HXA.out]; exact hwb
                          subst hxa2
                          have CRD : Hid (∀ u, Below wr.heap.size wr u → Calls Tryz.prog 14 #[.pointer (some ⟨p, 0, none⟩), kv G.k, .agg #[.int .i64 (xt + a3), .int .u8 xn], .int .i64 (xt + a3)] u fun e w' => e = .returned (.tuple #[.string (strOfNums G.v), .bool (!G.g), .int .i64 0]) ∧ Below u.heap.size u w') := fun u hu => hdq_read (HD.out.past (HB.out.trans (hu.mono HB.out.size))) G (List.mem_of_getElem? hG) hwo.key
                          have KY : Hid (Ky G.k) := hwo.key
                          have FK : Hid (∀ u, Below wr.heap.size wr u → KeyAt u wb (wo + z * 18) G.k) := fun u hu => (hwa.key hwo.key).past hu
                          obtain ⟨k, hk⟩ : ∃ k, k = G.k := ⟨_, rfl⟩
                          obtain ⟨S, hS⟩ : ∃ S, S = strOfNums G.v := ⟨_, rfl⟩
                          obtain ⟨gg, hgg⟩ : ∃ g, g = G.g := ⟨_, rfl⟩
                          have FV : Hid (∀ u, Below wr.heap.size wr u → u.cell? ⟨wb, wo + z * 18 + 16, none⟩ = some (.string S) ∧ u.cell? ⟨wb, wo + z * 18 + 17, none⟩ = some (.bool gg)) := fun u hu => by rw [hS, hgg]; exact (hwa.past hu).cells hwo.key
                          rw [← hk] at KY FK CRD
                          rw [← hS, ← hgg] at CRD
                          clear hG hXW hwb hwa hwo hk hS hgg
                          go_wp2
                          refine wp_region_noPanic ?_
                          refine wp_region_held_drew (S := fun u => Below wr.heap.size wr u) (by kernel_rfl) ?_ (fun hHeld => ?_)
                          · exact (Below.refl _ _).drew
                          refine wpAnyH_take (i := 0) (v := ?_) rfl (by kernel_rfl) (by kernel_rfl) (by kernel_rfl) (fun _ _ _ h => h) (Or.inl ⟨by rfl, ?_⟩) hHeld ?_
                          rotate_left
                          · intro u hSu
                            (go_simp) <;> (with_reducible rfl)
                          change wpAnyH _ _ _ _ _ _ _ (Act.put _ (some 153) _) _
                          simp only [Act.put, List.setIfInBounds_toArray, List.set_cons_zero, List.set_cons_succ]
                          refine wpAnyH_take (i := 1) (v := ?_) rfl (by kernel_rfl) (by kernel_rfl) (by kernel_rfl) (fun _ _ _ h => h) (Or.inl ⟨by rfl, ?_⟩) hHeld ?_
                          rotate_left
                          · intro u hSu
                            (go_simp) <;> (with_reducible rfl)
                          change wpAnyH _ _ _ _ _ _ _ (Act.put _ (some 154) _) _
                          simp only [Act.put, List.setIfInBounds_toArray, List.set_cons_zero, List.set_cons_succ]
                          refine wpAnyH_take (i := 2) (v := ?_) rfl (by kernel_rfl) (by kernel_rfl) (by kernel_rfl) (fun _ _ _ h => h) (Or.inl ⟨by rfl, ?_⟩) hHeld ?_
                          rotate_left
                          · intro u hSu
                            obtain ⟨r0, r5, r6, r7⟩ := FE.out u hSu
                            (go_simp) <;> (with_reducible rfl)
                          change wpAnyH _ _ _ _ _ _ _ (Act.put _ (some 155) _) _
                          simp only [Act.put, List.setIfInBounds_toArray, List.set_cons_zero, List.set_cons_succ]
                          refine wpAnyH_take (i := 3) (v := ?_) rfl (by kernel_rfl) (by kernel_rfl) (by kernel_rfl) (fun _ _ _ h => h) (Or.inl ⟨by rfl, ?_⟩) hHeld ?_
                          rotate_left
                          · intro u hSu
                            (go_simp) <;> (with_reducible rfl)
                          change wpAnyH _ _ _ _ _ _ _ (Act.put _ (some 156) _) _
                          simp only [Act.put, List.setIfInBounds_toArray, List.set_cons_zero, List.set_cons_succ]
                          refine wpAnyH_take (i := 4) (v := ?_) rfl (by kernel_rfl) (by kernel_rfl) (by kernel_rfl) (fun _ _ _ h => h) (Or.inl ⟨by rfl, ?_⟩) hHeld ?_
                          rotate_left
                          · intro u hSu
                            (go_simp) <;> (with_reducible rfl)
                          change wpAnyH _ _ _ _ _ _ _ (Act.put _ (some 157) _) _
                          simp only [Act.put, List.setIfInBounds_toArray, List.set_cons_zero, List.set_cons_succ]
                          refine wpAnyH_take (i := 5) (v := ?_) rfl (by kernel_rfl) (by kernel_rfl) (by kernel_rfl) (fun _ _ _ h => h) (Or.inl ⟨by rfl, ?_⟩) hHeld ?_
                          rotate_left
                          · intro u hSu
                            (go_simp) <;> (with_reducible rfl)
                          change wpAnyH _ _ _ _ _ _ _ (Act.put _ (some 158) _) _
                          simp only [Act.put, List.setIfInBounds_toArray, List.set_cons_zero, List.set_cons_succ]
                          refine wpAnyH_take (i := 6) (v := kv k) rfl (by kernel_rfl) (by kernel_rfl) (by kernel_rfl) (fun _ _ _ h => h) (yieldsIf_load_mid (by rfl) _ _ rfl _ _ rfl (k.map (Value.int .u8)) _ (fun u hu => (FK.out u hu).range KY.out) Tryz.underlying38 rfl (info_keyl k KY.out)) hHeld ?_
                          change wpAnyH _ _ _ _ _ _ _ (Act.put _ (some 159) _) _
                          simp only [Act.put, List.setIfInBounds_toArray, List.set_cons_zero, List.set_cons_succ]
                          refine wpAnyH_take (i := 7) (v := ?_) rfl (by kernel_rfl) (by kernel_rfl) (by kernel_rfl) (fun _ _ _ h => h) (Or.inl ⟨by rfl, ?_⟩) hHeld ?_
                          rotate_left
                          · intro u hSu
                            obtain ⟨r0, r5, r6, r7⟩ := FE.out u hSu
                            (go_simp) <;> (with_reducible rfl)
                          change wpAnyH _ _ _ _ _ _ _ (Act.put _ (some 160) _) _
                          simp only [Act.put, List.setIfInBounds_toArray, List.set_cons_zero, List.set_cons_succ]
                          refine wpAnyH_take (i := 8) (v := ?_) rfl (by kernel_rfl) (by kernel_rfl) (by kernel_rfl) (fun _ _ _ h => h) (Or.inl ⟨by rfl, ?_⟩) hHeld ?_
                          rotate_left
                          · intro u hSu
                            (go_simp) <;> (with_reducible rfl)
                          change wpAnyH _ _ _ _ _ _ _ (Act.put _ (some 161) _) _
                          simp only [Act.put, List.setIfInBounds_toArray, List.set_cons_zero, List.set_cons_succ]
                          refine wpAnyH_take (i := 9) (v := ?_) rfl (by kernel_rfl) (by kernel_rfl) (by kernel_rfl) (fun _ _ _ h => h) (Or.inl ⟨by rfl, ?_⟩) hHeld ?_
                          rotate_left
                          · intro u hSu
                            obtain ⟨r0, r5, r6, r7⟩ := FE.out u hSu
                            (go_simp) <;> (with_reducible rfl)
                          change wpAnyH _ _ _ _ _ _ _ (Act.put _ (some 162) _) _
                          simp only [Act.put, List.setIfInBounds_toArray, List.set_cons_zero, List.set_cons_succ]
                          refine wpAnyH_ready (rs := [10]) (by kernel_rfl) (by simp) ?_
                          refine AllReadyH.cons rfl (fun K hK => ?_) AllReadyH.nil
                          go_simp
                          go_at_call 14
                          refine (CRD.out _ hHeld).mono ?_
                          rintro e v7 ⟨rfl, hb⟩
                          have B7 : Hid (Below wr.heap.size wr v7) := hHeld.trans (hb.mono hHeld.size); clear hb
                          refine hK.out _ _ ?_ (fun hHeld2 => ?_)
                          · exact B7.out
                          clear hK K hHeld
                          have hHeld := hHeld2
                          clear hHeld2
                          refine wpAnyH_take (i := 11) (v := ?_) rfl (by kernel_rfl) (by kernel_rfl) (by kernel_rfl) (fun _ _ _ h => h) (Or.inl ⟨by rfl, ?_⟩) hHeld ?_
                          rotate_left
                          · intro u hSu
                            (go_simp) <;> (with_reducible rfl)
                          change wpAnyH _ _ _ _ _ _ _ (Act.put _ (some 152) _) _
                          simp only [Act.put, List.setIfInBounds_toArray, List.set_cons_zero, List.set_cons_succ]
                          refine wpAnyH_take (i := 12) (v := ?_) rfl (by kernel_rfl) (by kernel_rfl) (by kernel_rfl) (fun _ _ _ h => h) (Or.inl ⟨by rfl, ?_⟩) hHeld ?_
                          rotate_left
                          · intro u hSu
                            (go_simp) <;> (with_reducible rfl)
                          change wpAnyH _ _ _ _ _ _ _ (Act.put _ (some 164) _) _
                          simp only [Act.put, List.setIfInBounds_toArray, List.set_cons_zero, List.set_cons_succ]
                          refine wpAnyH_take (i := 13) (v := ?_) rfl (by kernel_rfl) (by kernel_rfl) (by kernel_rfl) (fun _ _ _ h => h) (Or.inl ⟨by rfl, ?_⟩) hHeld ?_
                          rotate_left
                          · intro u hSu
                            (go_simp) <;> (with_reducible rfl)
                          change wpAnyH _ _ _ _ _ _ _ (Act.put _ (some 165) _) _
                          simp only [Act.put, List.setIfInBounds_toArray, List.set_cons_zero, List.set_cons_succ]
                          refine wpAnyH_take (i := 14) (v := ?_) rfl (by kernel_rfl) (by kernel_rfl) (by kernel_rfl) (fun _ _ _ h => h) (Or.inl ⟨by rfl, ?_⟩) hHeld ?_
                          rotate_left
                          · intro u hSu
                            (go_simp) <;> (with_reducible rfl)
                          change wpAnyH _ _ _ _ _ _ _ (Act.put _ (some 166) _) _
                          simp only [Act.put, List.setIfInBounds_toArray, List.set_cons_zero, List.set_cons_succ]
                          refine wpAnyH_take (i := 15) (v := ?_) rfl (by kernel_rfl) (by kernel_rfl) (by kernel_rfl) (fun _ _ _ h => h) (Or.inl ⟨by rfl, ?_⟩) hHeld ?_
                          rotate_left
                          · intro u hSu
                            (go_simp) <;> (with_reducible rfl)
                          change wpAnyH _ _ _ _ _ _ _ (Act.put _ (some 14) _) _
                          simp only [Act.put, List.setIfInBounds_toArray, List.set_cons_zero, List.set_cons_succ]
                          refine wpAnyH_take (i := 16) (v := ?_) rfl (by kernel_rfl) (by kernel_rfl) (by kernel_rfl) (fun _ _ _ h => h) (Or.inl ⟨by rfl, ?_⟩) hHeld ?_
                          rotate_left
                          · intro u hSu
                            (go_simp) <;> (with_reducible rfl)
                          change wpAnyH _ _ _ _ _ _ _ (Act.put _ (some 15) _) _
                          simp only [Act.put, List.setIfInBounds_toArray, List.set_cons_zero, List.set_cons_succ]
                          refine wpAnyH_take (i := 17) (v := ?_) rfl (by kernel_rfl) (by kernel_rfl) (by kernel_rfl) (fun _ _ _ h => h) (Or.inl ⟨by rfl, ?_⟩) hHeld ?_
                          rotate_left
                          · intro u hSu
                            (go_simp) <;> (with_reducible rfl)
                          change wpAnyH _ _ _ _ _ _ _ (Act.put _ (some 16) _) _
                          simp only [Act.put, List.setIfInBounds_toArray, List.set_cons_zero, List.set_cons_succ]
                          refine wpAnyH_done (by kernel_rfl) ?_ _
                          refine NoPanic.normal ?_
                          clear r0 r5 r6 r7
                          obtain ⟨r0, r5, r6, r7⟩ := FE.out v7 B7.out
                          obtain ⟨n0, n1⟩ := FV.out v7 B7.out
                          cases gg with
                          | true =>
                            go_wp2
                            go_roundw
                            case rel => exact ⟨z + 1, by go_num, by omega, HB.out.trans (B7.out.mono HB.out.size)⟩
                            case measure => simp [intOf]; omega
                          | false =>
                            go_wp2
                            go_roundw
                            case rel => exact ⟨z + 1, by go_num, by omega, HB.out.trans (B7.out.mono HB.out.size)⟩
                            case measure => simp [intOf]; omega
                        · obtain rfl : z = N := by omega
                          have CSB : Hid (Calls Tryz.prog 19 #[.pointer (some ⟨p, 0, none⟩), .int .i64 xid] wr fun e w' => e = .returned (.int .i64 2) ∧ Below wr.heap.size wr w') := by rw [HID.out]; exact hdq_state (HD.out.past HB.out) HX.out.ok.id
                          go_wp2_with (first | (go_at_call 19; refine CSB.out.mono ?_; rintro e v8 ⟨rfl, hb8⟩; have B8 : Hid (Below W0.heap.size W0 v8) := HBD.out.trans ((HB.out.trans (hb8.mono HB.out.size)).mono HBD.out.size); clear hb8))
                          go_ret
                          exact ⟨rfl, HBW0.out _ B8.out⟩
                    · have bz : (z == 0) = false := by simpa using hz
                      clear hz
                      go_wp2_with (first | ((with_reducible show wpList _ _ _ (Oper.mk (some 119) _ _ _ _ _ :: _) _ _); refine wpList_load_pent 119 (by rfl) (by rfl) _ (by rfl) w.heap.size 0 (by rfl) x1 (EA.out _ HC.out.below) ?_) | (go_at_call 10; refine (CZ.out wr (Below.refl _ _)).mono ?_; rintro e v2 ⟨rfl, H2⟩; clear CZ HC))
                      go_ret
                      exact ⟨rfl, HBW0.out _ H2.out.below⟩
                  · obtain ⟨V0, hV0⟩ : ∃ V0, V0 = wr := ⟨_, rfl⟩
                    have bm : ((len2 : Int) == 0) = false := by simp; omega
                    have HE : Hid (HoQ W0 V0 p (len0 + len2) x1.e true) := by have := HC.out; rw [decide_eq_true (by omega)] at this; rw [hV0]; exact this
                    rw [← hV0]
                    clear hV0 HC
                    have HOKS : Hid (okS (xt + a3)) := by
                      have h7 := HE.out.okS
                      rw [← HXT.out] at h7
                      show 0 ≤ xt + a3 ∧ xt + a3 ≤ 36028797018963967
                      have h8 : 0 ≤ xt := h7.1
                      omega
                    have HCM : Hid (¬ cmpS (xt + a3) xn x1.e.t x1.e.n < 0) := by
                      show ¬ _ < _
                      rw [← HXT.out, ← HXN.out, cmp_neg]
                      intro h7
                      have h8 : xt + a3 < xt ∨ xt + a3 = xt ∧ xn < xn := h7
                      omega
                    have CSA : Hid (∀ u, HoF W0 u p (len0 + len2) x1.e (fun k => k = V0.heap.size) → Calls Tryz.prog 19 #[.pointer (some ⟨p, 0, none⟩), .int .i64 xid] u fun e w' => e = .returned (.int .i64 1) ∧ Below u.heap.size u w') := fun u h => by rw [HID.out]; exact hof_state h HX.out.ok.id
                    have CCA : Hid (∀ u, HoF W0 u p (len0 + len2) x1.e (fun k => k = V0.heap.size) → Calls Tryz.prog 12 #[.pointer (some ⟨p, 0, none⟩), .int .i64 xid, .agg #[.int .i64 (xt + a3), .int .u8 xn]] u fun e w' => e = .returned (.int .i64 0) ∧ Hid (HdQ W0 w' p (len0 + len2 + 1) x1.e (xt + a3) xn) ∧ Hid (∀ k, k = V0.heap.size → w'.heap[k]? = u.heap[k]?)) := fun u h => by rw [HID.out]; exact hof_commit h (xt + a3) xn HX.out.ok.id (by rw [HXN.out]; exact HX.out.ok.n) (by omega) HOKS.out HCM.out
                    have HF : Hid (HoF W0 (V0.alloc (.cells #[.int .i64 (xt + a3), .int .u8 xn] 28)) p (len0 + len2) x1.e (fun k => k = V0.heap.size)) := HE.out.f _
                    have ST : Hid (∀ u, Below (V0.alloc (.cells #[.int .i64 (xt + a3), .int .u8 xn] 28)).heap.size (V0.alloc (.cells #[.int .i64 (xt + a3), .int .u8 xn] 28)) u → u.cell? ⟨V0.heap.size, 0, none⟩ = some (.int .i64 (xt + a3)) ∧ u.cell? ⟨V0.heap.size, 1, none⟩ = some (.int .u8 xn)) := fun u hu => ⟨(hu.cell (p := ⟨V0.heap.size, 0, none⟩) (by show V0.heap.size < _; simp)).trans (by rw [World.cell?_alloc_new]; rfl), (hu.cell (p := ⟨V0.heap.size, 1, none⟩) (by show V0.heap.size < _; simp)).trans (by rw [World.cell?_alloc_new]; rfl)⟩
                    obtain ⟨e0, e3, e4, e5⟩ := EB.out V0 HE.out.below
                    obtain ⟨f0, f3, f4, f5⟩ := EB.out (V0.alloc (.cells #[.int .i64 (xt + a3), .int .u8 xn] 28)) (HE.out.below.alloc HE.out.below.size _)
                    go_wp2_with (first | (have hgo := HF.out; clear hgo; go_at_call 19; refine (CSA.out _ HF.out).mono ?_; rintro e v5 ⟨rfl, hb5⟩; have HF5 : Hid (HoF W0 v5 p (len0 + len2) x1.e (fun k => k = V0.heap.size)) := HF.out.past hb5; have hst5 := ST.out v5 hb5; obtain ⟨s0, s1⟩ := hst5; obtain ⟨e0, e3, e4, e5⟩ := EB.out v5 HF5.out.below; have HST5 : Hid (v5.cell? ⟨V0.heap.size, 0, none⟩ = some (.int .i64 (xt + a3)) ∧ v5.cell? ⟨V0.heap.size, 1, none⟩ = some (.int .u8 xn)) := ⟨s0, s1⟩; clear hb5 HF CSA) | (have hgo := HF5.out; clear hgo; go_at_call 12; refine (CCA.out _ HF5.out).mono ?_; rintro e v6 ⟨rfl, HD, hkp⟩; have HST6 : Hid (v6.cell? ⟨V0.heap.size, 0, none⟩ = some (.int .i64 (xt + a3)) ∧ v6.cell? ⟨V0.heap.size, 1, none⟩ = some (.int .u8 xn)) := ⟨(cell_kept (hkp.out V0.heap.size rfl) 0).trans HST5.out.1, (cell_kept (hkp.out V0.heap.size rfl) 1).trans HST5.out.2⟩; clear hkp HF5 HST5 CCA s0 s1))
                    have HBD : Hid (Below W0.heap.size W0 v6) := HD.out.below
                    go_loopw [13] (fun iv wr => ∃ z : Nat, iv = .int .i64 z ∧ z ≤ N ∧ Hid (Below v6.heap.size v6 wr)) (fun iv _ => N - (intOf iv).toNat)
                    case atStart => exact ⟨0, rfl, Nat.zero_le _, Below.refl _ _⟩
                    case round =>
                      obtain ⟨z, rfl, hz, HB⟩ := hrel
                      have hz0 : (0 : Int) ≤ (z : Int) := by omega
                      have FE : Hid (∀ u, Below wr.heap.size wr u → u.cell? ⟨w.heap.size, 0, none⟩ = some (.int .i64 xid) ∧ u.cell? ⟨w.heap.size, 5, none⟩ = some (.slice xa N xc) ∧ u.cell? ⟨V0.heap.size, 0, none⟩ = some (.int .i64 (xt + a3)) ∧ u.cell? ⟨V0.heap.size, 1, none⟩ = some (.int .u8 xn)) := fun u hu => by
                        have hb := HB.out.trans (hu.mono HB.out.size)
                        have h1 := EB.out u (HBD.out.trans (hb.mono HBD.out.size))
                        exact ⟨h1.1, h1.2.2.2, (hb.cell (p := ⟨V0.heap.size, 0, none⟩) (cell_lt HST6.out.1)).trans HST6.out.1, (hb.cell (p := ⟨V0.heap.size, 1, none⟩) (cell_lt HST6.out.1)).trans HST6.out.2⟩
                      obtain ⟨r0, r5, r6, r7⟩ := FE.out wr (Below.refl _ _)
                      by_cases hzl : z < N
                      · have h2 : (z : Int) < (N : Int) := by omega
                        obtain ⟨G, hG⟩ : ∃ G, x1.e.l[z]? = some G := ⟨_, List.getElem?_eq_getElem (by rw [HNN.out]; exact hzl)⟩
                        have hXW := HEX.out wr (HBD.out.trans (HB.out.mono HBD.out.size))
                        obtain ⟨wb, wo, hwb, hwa, hwo⟩ := hXW.wr.wrt hG
                        have hxa2 : xa = some ⟨wb, wo, none⟩ := by rw [HXA.out]; exact hwb
                        subst hxa2
                        have CRD : Hid (∀ u, Below wr.heap.size wr u → Calls Tryz.prog 14 #[.pointer (some ⟨p, 0, none⟩), kv G.k, .agg #[.int .i64 (xt + a3), .int .u8 xn], .int .i64 (xt + a3)] u fun e w' => e = .returned (.tuple #[.string (strOfNums G.v), .bool (!G.g), .int .i64 0]) ∧ Below u.heap.size u w') := fun u hu => hdq_read (HD.out.past (HB.out.trans (hu.mono HB.out.size))) G (List.mem_of_getElem? hG) hwo.key
                        have KY : Hid (Ky G.k) := hwo.key
                        have FK : Hid (∀ u, Below wr.heap.size wr u → KeyAt u wb (wo + z * 18) G.k) := fun u hu => (hwa.key hwo.key).past hu
                        obtain ⟨k, hk⟩ : ∃ k, k = G.k := ⟨_, rfl⟩
                        obtain ⟨S, hS⟩ : ∃ S, S = strOfNums G.v := ⟨_, rfl⟩
                        obtain ⟨gg, hgg⟩ : ∃ g, g = G.g := ⟨_, rfl⟩
                        have FV : Hid (∀ u, Below wr.heap.size wr u → u.cell? ⟨wb, wo + z * 18 + 16, none⟩ = some (.string S) ∧ u.cell? ⟨wb, wo + z * 18 + 17, none⟩ = some (.bool gg)) := fun u hu => by rw [hS, hgg]; exact (hwa.past hu).cells hwo.key
                        rw [← hk] at KY FK CRD
                        rw [← hS, ← hgg] at CRD
                        clear hG hXW hwb hwa hwo hk hS hgg
                        go_wp2
                        refine wp_region_noPanic ?_
                        refine wp_region_held_drew (S := fun u => Below wr.heap.size wr u) (by kernel_rfl) ?_ (fun hHeld => ?_)
                        · exact (Below.refl _ _).drew
                        refine wpAnyH_take (i := 0) (v := ?_) rfl (by kernel_rfl) (by kernel_rfl) (by kernel_rfl) (fun _ _ _ h => h) (Or.inl ⟨by rfl, ?_⟩) hHeld ?_
                        rotate_left
                        · intro u hSu
                          (go_simp) <;> (with_reducible rfl)
                        change wpAnyH _ _ _ _ _ _ _ (Act.put _ (some 153) _) _
                        simp only [Act.put, List.setIfInBounds_toArray, List.set_cons_zero, List.set_cons_succ]
                        refine wpAnyH_take (i := 1) (v := ?_) rfl (by kernel_rfl) (by kernel_rfl) (by kernel_rfl) (fun _ _ _ h => h) (Or.inl ⟨by rfl, ?_⟩) hHeld ?_
                        rotate_left
                        · intro u hSu
                          (go_simp) <;> (with_reducible rfl)
                        change wpAnyH _ _ _ _ _ _ _ (Act.put _ (some 154) _) _
                        simp only [Act.put, List.setIfInBounds_toArray, List.set_cons_zero, List.set_cons_succ]
                        refine wpAnyH_take (i := 2) (v := ?_) rfl (by kernel_rfl) (by kernel_rfl) (by kernel_rfl) (fun _ _ _ h => h) (Or.inl ⟨by rfl, ?_⟩) hHeld ?_
                        rotate_left
                        · intro u hSu
                          obtain ⟨r0, r5, r6, r7⟩ := FE.out u hSu
                          (go_simp) <;> (with_reducible rfl)
                        change wpAnyH _ _ _ _ _ _ _ (Act.put _ (some 155) _) _
                        simp only [Act.put, List.setIfInBounds_toArray, List.set_cons_zero, List.set_cons_succ]
                        refine wpAnyH_take (i := 3) (v := ?_) rfl (by kernel_rfl) (by kernel_rfl) (by kernel_rfl) (fun _ _ _ h => h) (Or.inl ⟨by rfl, ?_⟩) hHeld ?_
                        rotate_left
                        · intro u hSu
                          (go_simp) <;> (with_reducible rfl)
                        change wpAnyH _ _ _ _ _ _ _ (Act.put _ (some 156) _) _
                        simp only [Act.put, List.setIfInBounds_toArray, List.set_cons_zero, List.set_cons_succ]
                        refine wpAnyH_take (i := 4) (v := ?_) rfl (by kernel_rfl) (by kernel_rfl) (by kernel_rfl) (fun _ _ _ h => h) (Or.inl ⟨by rfl, ?_⟩) hHeld ?_
                        rotate_left
                        · intro u hSu
                          (go_simp) <;> (with_reducible rfl)
                        change wpAnyH _ _ _ _ _ _ _ (Act.put _ (some 157) _) _
                        simp only [Act.put, List.setIfInBounds_toArray, List.set_cons_zero, List.set_cons_succ]
                        refine wpAnyH_take (i := 5) (v := ?_) rfl (by kernel_rfl) (by kernel_rfl) (by kernel_rfl) (fun _ _ _ h => h) (Or.inl ⟨by rfl, ?_⟩) hHeld ?_
                        rotate_left
                        · intro u hSu
                          (go_simp) <;> (with_reducible rfl)
                        change wpAnyH _ _ _ _ _ _ _ (Act.put _ (some 158) _) _
                        simp only [Act.put, List.setIfInBounds_toArray, List.set_cons_zero, List.set_cons_succ]
                        refine wpAnyH_take (i := 6) (v := kv k) rfl (by kernel_rfl) (by kernel_rfl) (by kernel_rfl) (fun _ _ _ h => h) (yieldsIf_load_mid (by rfl) _ _ rfl _ _ rfl (k.map (Value.int .u8)) _ (fun u hu => (FK.out u hu).range KY.out) Tryz.underlying38 rfl (info_keyl k KY.out)) hHeld ?_
                        change wpAnyH _ _ _ _ _ _ _ (Act.put _ (some 159) _) _
                        simp only [Act.put, List.setIfInBounds_toArray, List.set_cons_zero, List.set_cons_succ]
                        refine wpAnyH_take (i := 7) (v := ?_) rfl (by kernel_rfl) (by kernel_rfl) (by kernel_rfl) (fun _ _ _ h => h) (Or.inl ⟨by rfl, ?_⟩) hHeld ?_
                        rotate_left
                        · intro u hSu
                          obtain ⟨r0, r5, r6, r7⟩ := FE.out u hSu
                          (go_simp) <;> (with_reducible rfl)
                        change wpAnyH _ _ _ _ _ _ _ (Act.put _ (some 160) _) _
                        simp only [Act.put, List.setIfInBounds_toArray, List.set_cons_zero, List.set_cons_succ]
                        refine wpAnyH_take (i := 8) (v := ?_) rfl (by kernel_rfl) (by kernel_rfl) (by kernel_rfl) (fun _ _ _ h => h) (Or.inl ⟨by rfl, ?_⟩) hHeld ?_
                        rotate_left
                        · intro u hSu
                          (go_simp) <;> (with_reducible rfl)
                        change wpAnyH _ _ _ _ _ _ _ (Act.put _ (some 161) _) _
                        simp only [Act.put, List.setIfInBounds_toArray, List.set_cons_zero, List.set_cons_succ]
                        refine wpAnyH_take (i := 9) (v := ?_) rfl (by kernel_rfl) (by kernel_rfl) (by kernel_rfl) (fun _ _ _ h => h) (Or.inl ⟨by rfl, ?_⟩) hHeld ?_
                        rotate_left
                        · intro u hSu
                          obtain ⟨r0, r5, r6, r7⟩ := FE.out u hSu
                          (go_simp) <;> (with_reducible rfl)
                        change wpAnyH _ _ _ _ _ _ _ (Act.put _ (some 162) _) _
                        simp only [Act.put, List.setIfInBounds_toArray, List.set_cons_zero, List.set_cons_succ]
                        refine wpAnyH_ready (rs := [10]) (by kernel_rfl) (by simp) ?_
                        refine AllReadyH.cons rfl (fun K hK => ?_) AllReadyH.nil
                        go_simp
                        go_at_call 14
                        refine (CRD.out _ hHeld).mono ?_
                        rintro e v7 ⟨rfl, hb⟩
                        have B7 : Hid (Below wr.heap.size wr v7) := hHeld.trans (hb.mono hHeld.size); clear hb
                        refine hK.out _ _ ?_ (fun hHeld2 => ?_)
                        · exact B7.out
                        clear hK K hHeld
                        have hHeld := hHeld2
                        clear hHeld2
                        refine wpAnyH_take (i := 11) (v := ?_) rfl (by kernel_rfl) (by kernel_rfl) (by kernel_rfl) (fun _ _ _ h => h) (Or.inl ⟨by rfl, ?_⟩) hHeld ?_
                        rotate_left
                        · intro u hSu
                          (go_simp) <;> (with_reducible rfl)
                        change wpAnyH _ _ _ _ _ _ _ (Act.put _ (some 152) _) _
                        simp only [Act.put, List.setIfInBounds_toArray, List.set_cons_zero, List.set_cons_succ]
                        refine wpAnyH_take (i := 12) (v := ?_) rfl (by kernel_rfl) (by kernel_rfl) (by kernel_rfl) (fun _ _ _ h => h) (Or.inl ⟨by rfl, ?_⟩) hHeld ?_
                        rotate_left
                        · intro u hSu
                          (go_simp) <;> (with_reducible rfl)
                        change wpAnyH _ _ _ _ _ _ _ (Act.put _ (some 164) _) _
                        simp only [Act.put, List.setIfInBounds_toArray, List.set_cons_zero, List.set_cons_succ]
                        refine wpAnyH_take (i := 13) (v := ?_) rfl (by kernel_rfl) (by kernel_rfl) (by kernel_rfl) (fun _ _ _ h => h) (Or.inl ⟨by rfl, ?_⟩) hHeld ?_
                        rotate_left
                        · intro u hSu
                          (go_simp) <;> (with_reducible rfl)
                        change wpAnyH _ _ _ _ _ _ _ (Act.put _ (some 165) _) _
                        simp only [Act.put, List.setIfInBounds_toArray, List.set_cons_zero, List.set_cons_succ]
                        refine wpAnyH_take (i := 14) (v := ?_) rfl (by kernel_rfl) (by kernel_rfl) (by kernel_rfl) (fun _ _ _ h => h) (Or.inl ⟨by rfl, ?_⟩) hHeld ?_
                        rotate_left
                        · intro u hSu
                          (go_simp) <;> (with_reducible rfl)
                        change wpAnyH _ _ _ _ _ _ _ (Act.put _ (some 166) _) _
                        simp only [Act.put, List.setIfInBounds_toArray, List.set_cons_zero, List.set_cons_succ]
                        refine wpAnyH_take (i := 15) (v := ?_) rfl (by kernel_rfl) (by kernel_rfl) (by kernel_rfl) (fun _ _ _ h => h) (Or.inl ⟨by rfl, ?_⟩) hHeld ?_
                        rotate_left
                        · intro u hSu
                          (go_simp) <;> (with_reducible rfl)
                        change wpAnyH _ _ _ _ _ _ _ (Act.put _ (some 14) _) _
                        simp only [Act.put, List.setIfInBounds_toArray, List.set_cons_zero, List.set_cons_succ]
                        refine wpAnyH_take (i := 16) (v := ?_) rfl (by kernel_rfl) (by kernel_rfl) (by kernel_rfl) (fun _ _ _ h => h) (Or.inl ⟨by rfl, ?_⟩) hHeld ?_
                        rotate_left
                        · intro u hSu
                          (go_simp) <;> (with_reducible rfl)
                        change wpAnyH _ _ _ _ _ _ _ (Act.put _ (some 15) _) _
                        simp only [Act.put, List.setIfInBounds_toArray, List.set_cons_zero, List.set_cons_succ]
                        refine wpAnyH_take (i := 17) (v := ?_) rfl (by kernel_rfl) (by kernel_rfl) (by kernel_rfl) (fun _ _ _ h => h) (Or.inl ⟨by rfl, ?_⟩) hHeld ?_
                        rotate_left
                        · intro u hSu
                          (go_simp) <;> (with_reducible rfl)
                        change wpAnyH _ _ _ _ _ _ _ (Act.put _ (some 16) _) _
                        simp only [Act.put, List.setIfInBounds_toArray, List.set_cons_zero, List.set_cons_succ]
                        refine wpAnyH_done (by kernel_rfl) ?_ _
                        refine NoPanic.normal ?_
                        clear r0 r5 r6 r7
                        obtain ⟨r0, r5, r6, r7⟩ := FE.out v7 B7.out
                        obtain ⟨n0, n1⟩ := FV.out v7 B7.out
                        cases gg with
                        | true =>
                          go_wp2
                          go_roundw
                          case rel => exact ⟨z + 1, by go_num, by omega, HB.out.trans (B7.out.mono HB.out.size)⟩
                          case measure => simp [intOf]; omega
                        | false =>
                          go_wp2
                          go_roundw
                          case rel => exact ⟨z + 1, by go_num, by omega, HB.out.trans (B7.out.mono HB.out.size)⟩
                          case measure => simp [intOf]; omega
                      · obtain rfl : z = N := by omega
                        have CSB : Hid (Calls Tryz.prog 19 #[.pointer (some ⟨p, 0, none⟩), .int .i64 xid] wr fun e w' => e = .returned (.int .i64 2) ∧ Below wr.heap.size wr w') := by rw [HID.out]; exact hdq_state (HD.out.past HB.out) HX.out.ok.id
                        go_wp2_with (first | (go_at_call 19; refine CSB.out.mono ?_; rintro e v8 ⟨rfl, hb8⟩; have B8 : Hid (Below W0.heap.size W0 v8) := HBD.out.trans ((HB.out.trans (hb8.mono HB.out.size)).mono HBD.out.size); clear hb8))
                        go_ret
                        exact ⟨rfl, HBW0.out _ B8.out⟩

set_option maxRecDepth 100000 in
theorem lifted (os : Os) (started : os.Started) (H : Type) (enc : TypeId × Value → H) :
    ReturnsInHanded {} Tryz.checked os 5 .any (Rows.partHoldsSpec.pre6 enc Tryz.prog Tryz.f5 Rows.partHoldsRow.domain false) (Rows.partHoldsSpec.post enc Tryz.prog Tryz.f5 false true false false) := by
  refine returnsInHanded_of_change (C := Tryz.checked) own started (by kernel_rfl) Tryz.func5
    (ChangeSpec.witness6 (enc := enc) (C := Tryz.checked) false ⟨#[], #[.slice none 0 0, .agg #[.int .i64 0, .int .i64 0, .int .u8 0, .int .i64 0, .int .u8 0, .slice none 0 0], .slice none 0 0, .int .i64 0], []⟩ 8 (by kernel_rfl) (by kernel_rfl) (by kernel_rfl) (by kernel_rfl)) ?_
  intro W base args ds gs before hval0 hW hcnd _
  have hval : ∀ (j : Nat) t v, Tryz.f5.params[j]? = some t → args[j]? = some v → Value.okWide Tryz.prog W .any base t v := hval0
  have hW' := hW
  obtain ⟨p, q, hA0, hV, rfl, hfz, hnd⟩ := hW
  have hA : DataW.TrodAll enc Tryz.prog W 0 (fun _ => true) true Tryz.f5.params.toList args.toList ds p := hA0
  rw [Tryz.params5] at hA hval
  obtain ⟨v0, vs0, d0, ds0, p0, q0, hargs, rfl, rfl, h0, r0⟩ := trodAll_cons hA
  obtain ⟨v1, vs1, d1, ds1, p1, q1, rfl, rfl, rfl, h1, r1⟩ := trodAll_cons r0
  obtain ⟨v2, vs2, d2, ds2, p2, q2, rfl, rfl, rfl, h2, r2⟩ := trodAll_cons r1
  obtain ⟨v3, vs3, d3, ds3, p3, q3, rfl, rfl, rfl, h3, r3⟩ := trodAll_cons r2
  obtain ⟨rfl, rfl, rfl⟩ := trodAll_nil r3
  obtain rfl : args = #[v0, v1, v2, v3] := by cases args; simp_all
  obtain ⟨rfl, rfl⟩ := trodVars_none hV
  obtain ⟨a0, len0, cap0, rfl⟩ := okWide_slice Tryz.underlying51 (hval 0 51 v0 rfl rfl)
  have k0 := h0
  have lt0 : ∀ x ∈ p0, x.block < W.heap.size := by obtain ⟨m, hm⟩ := k0; exact DataW.trod_lt m _ _ _ hm
  obtain ⟨z0, l0, w0⟩ : ∃ xs : List QAct, xs.length = len0 ∧ QActsOf W a0 cap0 xs := by
    obtain ⟨fuel, hf⟩ := h0
    exact qacts_open Tryz.underlying51 Tryz.underlying55 Tryz.underlying3 rfl rfl rfl Tryz.underlying31 Tryz.underlying2 Tryz.underlying28 Tryz.underlying28 Tryz.underlying2 Tryz.underlying5 Tryz.underlying29 Tryz.underlying80 Tryz.underlying38 Tryz.underlying5 Tryz.underlying9 Tryz.underlying4 rfl rfl rfl rfl rfl rfl rfl rfl rfl (by kernel_rfl) (by kernel_rfl) (by kernel_rfl) (by kernel_rfl) (by kernel_rfl) (by kernel_rfl) (by kernel_rfl) (by kernel_rfl) (by kernel_rfl) (by kernel_rfl) (by kernel_rfl) Tryz.underlying28 Tryz.underlying47 Tryz.underlying3 Tryz.underlying2 Tryz.underlying28 Tryz.underlying28 Tryz.underlying29 Tryz.underlying4 Tryz.underlying45 Tryz.underlying3 rfl rfl rfl rfl rfl rfl rfl (by kernel_rfl) (by kernel_rfl) (by kernel_rfl) (by kernel_rfl) (by kernel_rfl) (by kernel_rfl) (by kernel_rfl) (by kernel_rfl) rfl rfl rfl rfl (by kernel_rfl) (by kernel_rfl) (by kernel_rfl) (by kernel_rfl) (by kernel_rfl) hf
  have k1 := h1
  have lt1 : ∀ x ∈ p1, x.block < W.heap.size := by obtain ⟨m, hm⟩ := k1; exact DataW.trod_lt m _ _ _ hm
  obtain ⟨x1, rfl, w1⟩ := ent_open Tryz.underlying31 Tryz.underlying2 Tryz.underlying28 Tryz.underlying28 Tryz.underlying2 Tryz.underlying5 Tryz.underlying29 Tryz.underlying80 Tryz.underlying38 Tryz.underlying5 Tryz.underlying9 Tryz.underlying4 rfl rfl rfl rfl rfl rfl rfl rfl rfl (by kernel_rfl) (by kernel_rfl) (by kernel_rfl) (by kernel_rfl) (by kernel_rfl) (by kernel_rfl) (by kernel_rfl) (by kernel_rfl) (by kernel_rfl) (by kernel_rfl) (by kernel_rfl) (by kernel_rfl) (hval 1 31 v1 rfl rfl) h1
  obtain ⟨a2, len2, cap2, rfl⟩ := okWide_slice Tryz.underlying51 (hval 2 51 v2 rfl rfl)
  have k2 := h2
  have lt2 : ∀ x ∈ p2, x.block < W.heap.size := by obtain ⟨m, hm⟩ := k2; exact DataW.trod_lt m _ _ _ hm
  obtain ⟨z2, l2, w2⟩ : ∃ xs : List QAct, xs.length = len2 ∧ QActsOf W a2 cap2 xs := by
    obtain ⟨fuel, hf⟩ := h2
    exact qacts_open Tryz.underlying51 Tryz.underlying55 Tryz.underlying3 rfl rfl rfl Tryz.underlying31 Tryz.underlying2 Tryz.underlying28 Tryz.underlying28 Tryz.underlying2 Tryz.underlying5 Tryz.underlying29 Tryz.underlying80 Tryz.underlying38 Tryz.underlying5 Tryz.underlying9 Tryz.underlying4 rfl rfl rfl rfl rfl rfl rfl rfl rfl (by kernel_rfl) (by kernel_rfl) (by kernel_rfl) (by kernel_rfl) (by kernel_rfl) (by kernel_rfl) (by kernel_rfl) (by kernel_rfl) (by kernel_rfl) (by kernel_rfl) (by kernel_rfl) Tryz.underlying28 Tryz.underlying47 Tryz.underlying3 Tryz.underlying2 Tryz.underlying28 Tryz.underlying28 Tryz.underlying29 Tryz.underlying4 Tryz.underlying45 Tryz.underlying3 rfl rfl rfl rfl rfl rfl rfl (by kernel_rfl) (by kernel_rfl) (by kernel_rfl) (by kernel_rfl) (by kernel_rfl) (by kernel_rfl) (by kernel_rfl) (by kernel_rfl) rfl rfl rfl rfl (by kernel_rfl) (by kernel_rfl) (by kernel_rfl) (by kernel_rfl) (by kernel_rfl) hf
  have k3 := h3
  have lt3 : ∀ x ∈ p3, x.block < W.heap.size := by obtain ⟨m, hm⟩ := k3; exact DataW.trod_lt m _ _ _ hm
  obtain ⟨a3, rfl, rfl, rfl, w3⟩ := open_int Tryz.underlying2 (hval 3 2 v3 rfl rfl) h3
  clear hA0 hval0
  refine (walk a0 len0 cap0 z0 x1 a2 len2 cap2 z2 a3 W l0 w0 w1 l2 w2 w3).mono fun e W' ⟨he, bel⟩ => ?_
  subst he
  exact ⟨_, rfl, _, _, _, [], _, [], hW', trodAll_mk1 (shut_bool Tryz.underlying4 _), (trodAll_cons_mk (Below.trod laidOut (by kernel_rfl) (of_decide_eq_true (by kernel_rfl)) k0 bel lt0) (trodAll_cons_mk (Below.trod laidOut (by kernel_rfl) (of_decide_eq_true (by kernel_rfl)) k1 bel lt1) (trodAll_cons_mk (Below.trod laidOut (by kernel_rfl) (of_decide_eq_true (by kernel_rfl)) k2 bel lt2) (trodAll_cons_mk (Below.trod laidOut (by kernel_rfl) (of_decide_eq_true (by kernel_rfl)) k3 bel lt3) trodAll_mk0)))), rfl, bel.frame _, fun h => by cases h⟩

theorem over : Rows.partHoldsRow.holds Tryz.pinned (OpenSpec.ofChange Rows.partHoldsSpec) :=
  OpenClaim.holds_of_wide 5 Tryz.f5 rfl rfl rfl rfl rfl rfl rfl ⟨rfl, rfl, rfl, rfl, rfl⟩ rfl rfl rfl rfl rfl (by kernel_rfl) Tryz.func5 (by kernel_rfl)
    (of_decide_eq_true (by kernel_rfl)) (by unfold Func.isWrapper; first | (rw [if_pos (by decide +kernel)]; kernel_rfl) | (rw [if_neg (by decide +kernel)]; exact ⟨rfl, rfl⟩))
    (fun os started H enc _ => lifted os started H enc)
theorem proved : Rows.PartHoldsSaid := over
#print axioms proved
end Go.Proofs.YtileidbdmpeciaaGreat.partHolds
namespace Go.Proofs.YtileidbdmpeciaaGreat
/-- PartHolds, as given. -/
theorem partHolds_holds : Rows.PartHoldsSaid := partHolds.proved
end Go.Proofs.YtileidbdmpeciaaGreat
