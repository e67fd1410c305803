/-
  PartOver: what is over is over, whatever is said again (of lists of more than 40 acts, of acts of more than 20 writes, of values of more than 250 bytes the statement asks nothing).
-/
import Derived.Test.YtileidbdmpeciaaGreatRows
import Derived.Test.YtileidbdmpeciaaGreatAu83
import Derived.WalkKit
import Derived.ProofKit
import Derived.OpenShut
import Derived.ShutString
import Derived.ChangeOld
import Derived.Below
import Derived.Carry
namespace Go.Proofs.YtileidbdmpeciaaGreat.partOver
open Go.ChangeShapes Go.WideShapes Go.ChangeAt Go.RowKit
open Go.ChangeMaps (open_string shut_string)
set_option linter.unusedVariables false

theorem own : ownKnob Tryz.prog.godebug = none := by kernel_rfl
theorem laidOut : laidOutB Tryz.prog = true := by kernel_rfl
/-- A slice of integers that came in: nil, or a row of 'cap' cells, of which the first 'len' are its elements. -/
def IsRow (k : IntKind) (w : World) (a : Option Addr) (len cap : Nat) (zs : List Int) : Prop :=
  (a = none ∧ len = 0 ∧ cap = 0 ∧ zs = []) ∨
  ∃ x, a = some x ∧ len ≤ cap ∧ cap ≤ maxLen ∧ zs.length = cap ∧ (∀ i, i < zs.length → w.cell? (x.add i) = some (.int k (zs.getD i 0))) ∧ ∀ n ∈ zs, (Lit.int k n).wf = true

set_option maxRecDepth 20000 in
set_option maxHeartbeats 16000000 in
theorem walk (a0 : Option Addr) (len0 cap0 : Nat) (z0 : List QAct) (a1 : Int) (w : World) (l0 : z0.length = len0) (w0 : QActsOf w a0 cap0 z0) (w1 : (Lit.int .i64 a1).wf = true) :
    Calls Tryz.prog 7 #[.slice a0 len0 cap0, .int .i64 a1] w fun e w' => e = .returned (.bool true) ∧ Below w.heap.size w w' := by
  have AW : Hid (∀ u, Calls Tryz.prog 8 #[] u fun e w' => e = .returned (.bool true) ∧ Below u.heap.size u w') := fun u => qawake_any u
  have HL : Hid (z0.length = len0) := l0
  have HA : Hid (QActsOf w a0 cap0 z0) := w0
  have hcap : len0 ≤ cap0 := by rw [← l0]; exact w0.room
  have HI : Hid (I64 a1) := bounds_i64 w1
  have CN : Hid (∀ u, Below w.heap.size w u → Calls Tryz.prog 9 #[] u fun e w' => ∃ p, e = .returned (.pointer (some ⟨p, 0, none⟩)) ∧ PaX w w' p ⟨[], [], []⟩ 0) := fun u hb => xanewp hb
  clear w0 l0 w1
  by_cases ha : 40 < len0
  · have ba : (40 : Int) < (len0 : Int) := by omega
    go_enter Tryz.func7, Tryz.ntmps7
    go_wp2_with (first | (go_at_call 8; refine (AW.out _).mono ?_; rintro e v1 ⟨rfl, hb1⟩; have B1 : Hid (Below w.heap.size w v1) := hb1; clear hb1))
    go_ret
    exact ⟨rfl, B1.out⟩
  · have ba : ¬ (40 : Int) < (len0 : Int) := by omega
    have h40 : len0 ≤ 40 := by omega
    go_enter Tryz.func7, Tryz.ntmps7
    go_wp2_with (first | (go_at_call 8; refine (AW.out _).mono ?_; rintro e v1 ⟨rfl, hb1⟩; have B1 : Hid (Below w.heap.size w v1) := hb1; clear hb1) | (have hgo := B1.out; clear hgo; go_at_call 9; refine (CN.out _ B1.out).mono ?_; rintro e v2 ⟨p, rfl, h2⟩; have H2 : Hid (PaX w v2 p ⟨[], [], []⟩ 0) := h2; clear h2 B1))
    clear CN AW
    go_loopw [6, 7] (fun sv iv wr => ∃ (i : Nat) (s : Int), iv = .int .i64 i ∧ sv = .int .i64 s ∧ i ≤ len0 ∧ Hid (∃ P, PaX w wr p P i ∧ s = stateP P a1)) (fun _ iv _ => len0 - (intOf iv).toNat)
    case atStart => exact ⟨0, 0, rfl, rfl, Nat.zero_le _, ⟨_, H2.out, rfl⟩⟩
    case round =>
      obtain ⟨i, s, rfl, rfl, hi, HP⟩ := hrel
      obtain ⟨P, hC, hs⟩ := HP.out
      have HC : Hid (PaX w wr p P i) := hC
      have HS : Hid (s = stateP P a1) := hs
      clear hC hs HP
      have h0 : (0 : Int) ≤ (i : Int) := by omega
      have HBW : Hid (Below w.heap.size w wr) := HC.out.below
      by_cases hlt : i < len0
      · have h1 : (i : Int) < (len0 : Int) := by omega
        obtain ⟨y, hy⟩ : ∃ y, z0[i]? = some y := ⟨_, List.getElem?_eq_getElem (by rw [HL.out]; exact hlt)⟩
        obtain ⟨b, off, rfl, hay, hok⟩ := HA.out.act hy
        have HAY : Hid (QActAt wr b (off + i * 18) y) := hay.past HBW.out
        have HOK : Hid (QActOk w y) := hok
        obtain ⟨lg, hlg⟩ : ∃ g, g = longQ y.x.e.l := ⟨_, rfl⟩
        have HLG : Hid (lg = longQ y.x.e.l) := hlg
        obtain ⟨N, hN⟩ : ∃ N, N = y.x.e.l.length := ⟨_, rfl⟩
        obtain ⟨ya, hya⟩ : ∃ t, t = y.x.a := ⟨_, rfl⟩
        obtain ⟨yc, hyc⟩ : ∃ t, t = y.x.c := ⟨_, rfl⟩
        obtain ⟨op, hop⟩ : ∃ t, t = y.op := ⟨_, rfl⟩
        obtain ⟨id, hid⟩ : ∃ t, t = y.x.e.id := ⟨_, rfl⟩
        obtain ⟨t, ht⟩ : ∃ t, t = y.t := ⟨_, rfl⟩
        obtain ⟨n, hn⟩ : ∃ t, t = y.n := ⟨_, rfl⟩
        have CLG : Hid (∀ u, Below wr.heap.size wr u → Calls Tryz.prog 22 #[.slice ya N yc] u fun e w' => e = .returned (.bool lg) ∧ w' = u) := fun u hb => by rw [hya, hN, hyc, hlg]; exact qlong_any y.x.a y.x.e.l.length y.x.c y.x.e.l u rfl hok.ent.wr.room hok.ent.wr.few (hok.ent.wr.at_.past (HBW.out.trans (hb.mono HBW.out.size)))
        have FQ : Hid (∀ u c, QMine u c y → u.cell? ⟨c, 0, none⟩ = some (.int .i64 op) ∧ u.cell? ⟨c, 1, none⟩ = some (.int .i64 id) ∧ u.cell? ⟨c, 6, none⟩ = some (.slice ya N yc) ∧ u.cell? ⟨c, 7, none⟩ = some (.int .i64 t) ∧ u.cell? ⟨c, 8, none⟩ = some (.int .u8 n)) := fun u c hm => by
          have h1 := hm.at_.ent.cells
          have h2 := hm.at_.st
          rw [Nat.zero_add] at h1 h2
          rw [hop, hid, hya, hN, hyc, ht, hn]
          exact ⟨hm.at_.op, h1.1, h1.2.2.2.2.2, h2.1, h2.2⟩
        have CST : Hid (∀ u P', PaX w u p P' (i + 1) → Calls Tryz.prog 19 #[.pointer (some ⟨p, 0, none⟩), .int .i64 a1] u fun e w' => e = .returned (.int .i64 (stateP P' a1)) ∧ PaX w w' p P' (i + 1)) := fun u P' h => by
          refine (xastate h a1 HI.out).mono ?_
          rintro e w' ⟨rfl, hb⟩
          exact ⟨rfl, h.past hb⟩
        have CPR : Hid (lg = false → ∀ u, Below wr.heap.size wr u → Calls Tryz.prog 10 #[.pointer (some ⟨p, 0, none⟩), ev y.x] u fun e w' => (∃ z : Int, e = .returned (.int .i64 z)) ∧ ∃ P', Hid (PaX w w' p P' (i + 1)) ∧ Hid (nextS s (stateP P' a1))) := fun hg u hb => by
          have hb2 := HBW.out.trans (hb.mono HBW.out.size)
          refine (xaprep (HC.out.past hb) y.x (HOK.out.ent.w hb2 (by rw [← HLG.out]; exact hg))).mono ?_
          rintro e w' ⟨rfl, h2⟩
          exact ⟨⟨_, rfl⟩, _, h2.up (Nat.le_succ _), by show nextS _ _; rw [HS.out]; exact over_prep P y.x.e a1⟩
        have CCO : Hid (∀ u, Below wr.heap.size wr u → Calls Tryz.prog 12 #[.pointer (some ⟨p, 0, none⟩), .int .i64 id, .agg #[.int .i64 t, .int .u8 n]] u fun e w' => (∃ z : Int, e = .returned (.int .i64 z)) ∧ ∃ P', Hid (PaX w w' p P' (i + 1)) ∧ Hid (nextS s (stateP P' a1))) := fun u hb => by
          refine (xacommit (HC.out.past hb) id t n (by rw [hid]; exact HOK.out.ent.ok.id) (by rw [hn]; exact HOK.out.n) (by omega)).mono ?_
          rintro e w' ⟨rfl, h2⟩
          exact ⟨⟨_, rfl⟩, _, h2, by show nextS _ _; rw [HS.out]; exact over_commit HC.out.k id t n a1⟩
        have CAB : Hid (∀ u, Below wr.heap.size wr u → Calls Tryz.prog 17 #[.pointer (some ⟨p, 0, none⟩), .int .i64 id] u fun e w' => (∃ z : Int, e = .returned (.int .i64 z)) ∧ ∃ P', Hid (PaX w w' p P' (i + 1)) ∧ Hid (nextS s (stateP P' a1))) := fun u hb => by
          refine (xaabort (HC.out.past hb) id (by rw [hid]; exact HOK.out.ent.ok.id) (by omega)).mono ?_
          rintro e w' ⟨rfl, h2⟩
          exact ⟨⟨_, rfl⟩, _, h2, by show nextS _ _; rw [HS.out]; exact over_abort HC.out.k id a1⟩
        have hmi := QMine.made wr 55 zeroQ
        rw [zeroQ_cells] at hmi
        have HMI : Hid _ := hmi
        clear hmi hlg hN hya hyc hop hid ht hn hay hok hy HOK HS HC
        cases lg with
        | true =>
          clear CPR CCO CAB CST
          go_wp2_with (first
            | ((with_reducible show wpList _ _ _ (Oper.mk (some 25) _ _ _ _ _ :: _) _ _); refine wpList_load_qact 25 (by rfl) (by rfl) _ (by rfl) b (off + i * 18) (by rfl) y HAY.out ?_)
            | (have hgo := HMI.out; clear hgo; refine wpList_store_qact (.tmp 8) (by rfl) _ (by rfl) wr.heap.size zeroQ y (by rfl) (by rfl) HMI.out ?_; intro u2 hu; have HQ2 : Hid (QMine u2 wr.heap.size y) := hu ▸ HMI.out.store; have HB2 : Hid (Below wr.heap.size wr u2) := hu ▸ below_cells (Nat.le_refl _) ((Below.refl _ _).alloc (Nat.le_refl _) _); obtain ⟨x0, x1, x6, x7, x8⟩ := FQ.out u2 wr.heap.size HQ2.out; clear hu HMI)
            | (go_at_call 22; refine (CLG.out _ HB2.out).mono ?_; rintro e v3 ⟨rfl, hv3⟩; obtain rfl := hv3.symm))
          go_ret
          exact ⟨rfl, HBW.out.trans (HB2.out.mono HBW.out.size)⟩
        | false =>
          have CP2 : Hid (∀ u, Below wr.heap.size wr u → Calls Tryz.prog 10 #[.pointer (some ⟨p, 0, none⟩), ev y.x] u fun e w' => (∃ z : Int, e = .returned (.int .i64 z)) ∧ ∃ P', Hid (PaX w w' p P' (i + 1)) ∧ Hid (nextS s (stateP P' a1))) := CPR.out rfl
          clear CPR
          have hop : op = 0 ∨ op = 1 ∨ (op ≠ 0 ∧ op ≠ 1) := by omega
          rcases hop with ho | ho | ho
          · subst ho
            go_wp2_with (first
              | ((with_reducible show wpList _ _ _ (Oper.mk (some 25) _ _ _ _ _ :: _) _ _); refine wpList_load_qact 25 (by rfl) (by rfl) _ (by rfl) b (off + i * 18) (by rfl) y HAY.out ?_)
              | (have hgo := HMI.out; clear hgo; refine wpList_store_qact (.tmp 8) (by rfl) _ (by rfl) wr.heap.size zeroQ y (by rfl) (by rfl) HMI.out ?_; intro u2 hu; have HQ2 : Hid (QMine u2 wr.heap.size y) := hu ▸ HMI.out.store; have HB2 : Hid (Below wr.heap.size wr u2) := hu ▸ below_cells (Nat.le_refl _) ((Below.refl _ _).alloc (Nat.le_refl _) _); obtain ⟨x0, x1, x6, x7, x8⟩ := FQ.out u2 wr.heap.size HQ2.out; clear hu HMI)
              | (go_at_call 22; refine (CLG.out _ HB2.out).mono ?_; rintro e v3 ⟨rfl, hv3⟩; obtain rfl := hv3.symm)
              | ((with_reducible show wpList _ _ _ (Oper.mk (some 41) _ _ _ _ _ :: _) _ _); refine wpList_load_pent 41 (by rfl) (by rfl) _ (by rfl) wr.heap.size 1 (by rfl) y.x HQ2.out.at_.ent ?_)
              | (go_at_call 10; refine (CP2.out _ HB2.out).mono ?_; rintro e v4 ⟨⟨z, rfl⟩, P', H4, HN⟩; clear x0 x1 x6 x7 x8)
              | (have hgo := H4.out; clear hgo; go_at_call 19; refine (CST.out _ _ H4.out).mono ?_; rintro e v5 ⟨rfl, h5⟩; have H5 : Hid (∃ Q, PaX w v5 p Q (i + 1) ∧ stateP P' a1 = stateP Q a1) := ⟨P', h5, rfl⟩; have hn3 := next_cases HN.out; clear h5 H4 HN; generalize stateP P' a1 = s' at *; rcases hn3 with ⟨g1, g2⟩ | ⟨g1, g2⟩ | ⟨g1, g2⟩; (have b1 : (s == 1) = false := (by simp; omega)); (subst g2); rotate_left; (have b2 : (s' == 0) = false := (by simpa using g2)); (subst g1); rotate_left; (have b1 : (s == 1) = false := (by simpa using g2)); rotate_left))
            all_goals go_roundw
            all_goals first | exact ⟨i + 1, _, by go_num, rfl, by omega, H5⟩ | (simp [intOf]; omega)
          · subst ho
            go_wp2_with (first
              | ((with_reducible show wpList _ _ _ (Oper.mk (some 25) _ _ _ _ _ :: _) _ _); refine wpList_load_qact 25 (by rfl) (by rfl) _ (by rfl) b (off + i * 18) (by rfl) y HAY.out ?_)
              | (have hgo := HMI.out; clear hgo; refine wpList_store_qact (.tmp 8) (by rfl) _ (by rfl) wr.heap.size zeroQ y (by rfl) (by rfl) HMI.out ?_; intro u2 hu; have HQ2 : Hid (QMine u2 wr.heap.size y) := hu ▸ HMI.out.store; have HB2 : Hid (Below wr.heap.size wr u2) := hu ▸ below_cells (Nat.le_refl _) ((Below.refl _ _).alloc (Nat.le_refl _) _); obtain ⟨x0, x1, x6, x7, x8⟩ := FQ.out u2 wr.heap.size HQ2.out; clear hu HMI)
              | (go_at_call 22; refine (CLG.out _ HB2.out).mono ?_; rintro e v3 ⟨rfl, hv3⟩; obtain rfl := hv3.symm)
              | (go_at_call 12; refine (CCO.out _ HB2.out).mono ?_; rintro e v4 ⟨⟨z, rfl⟩, P', H4, HN⟩; clear x0 x1 x6 x7 x8)
              | (have hgo := H4.out; clear hgo; go_at_call 19; refine (CST.out _ _ H4.out).mono ?_; rintro e v5 ⟨rfl, h5⟩; have H5 : Hid (∃ Q, PaX w v5 p Q (i + 1) ∧ stateP P' a1 = stateP Q a1) := ⟨P', h5, rfl⟩; have hn3 := next_cases HN.out; clear h5 H4 HN; generalize stateP P' a1 = s' at *; rcases hn3 with ⟨g1, g2⟩ | ⟨g1, g2⟩ | ⟨g1, g2⟩; (have b1 : (s == 1) = false := (by simp; omega)); (subst g2); rotate_left; (have b2 : (s' == 0) = false := (by simpa using g2)); (subst g1); rotate_left; (have b1 : (s == 1) = false := (by simpa using g2)); rotate_left))
            all_goals go_roundw
            all_goals first | exact ⟨i + 1, _, by go_num, rfl, by omega, H5⟩ | (simp [intOf]; omega)
          · have bo0 : (op == 0) = false := by simpa using ho.1
            have bo1 : (op == 1) = false := by simpa using ho.2
            clear ho
            go_wp2_with (first
              | ((with_reducible show wpList _ _ _ (Oper.mk (some 25) _ _ _ _ _ :: _) _ _); refine wpList_load_qact 25 (by rfl) (by rfl) _ (by rfl) b (off + i * 18) (by rfl) y HAY.out ?_)
              | (have hgo := HMI.out; clear hgo; refine wpList_store_qact (.tmp 8) (by rfl) _ (by rfl) wr.heap.size zeroQ y (by rfl) (by rfl) HMI.out ?_; intro u2 hu; have HQ2 : Hid (QMine u2 wr.heap.size y) := hu ▸ HMI.out.store; have HB2 : Hid (Below wr.heap.size wr u2) := hu ▸ below_cells (Nat.le_refl _) ((Below.refl _ _).alloc (Nat.le_refl _) _); obtain ⟨x0, x1, x6, x7, x8⟩ := FQ.out u2 wr.heap.size HQ2.out; clear hu HMI)
              | (go_at_call 22; refine (CLG.out _ HB2.out).mono ?_; rintro e v3 ⟨rfl, hv3⟩; obtain rfl := hv3.symm)
              | (go_at_call 17; refine (CAB.out _ HB2.out).mono ?_; rintro e v4 ⟨⟨z, rfl⟩, P', H4, HN⟩; clear x0 x1 x6 x7 x8)
              | (have hgo := H4.out; clear hgo; go_at_call 19; refine (CST.out _ _ H4.out).mono ?_; rintro e v5 ⟨rfl, h5⟩; have H5 : Hid (∃ Q, PaX w v5 p Q (i + 1) ∧ stateP P' a1 = stateP Q a1) := ⟨P', h5, rfl⟩; have hn3 := next_cases HN.out; clear h5 H4 HN; generalize stateP P' a1 = s' at *; rcases hn3 with ⟨g1, g2⟩ | ⟨g1, g2⟩ | ⟨g1, g2⟩; (have b1 : (s == 1) = false := (by simp; omega)); (subst g2); rotate_left; (have b2 : (s' == 0) = false := (by simpa using g2)); (subst g1); rotate_left; (have b1 : (s == 1) = false := (by simpa using g2)); rotate_left))
            all_goals go_roundw
            all_goals first | exact ⟨i + 1, _, by go_num, rfl, by omega, H5⟩ | (simp [intOf]; omega)
      · obtain rfl : i = len0 := by omega
        obtain ⟨g1, g2⟩ : 0 ≤ s ∧ s ≤ 3 := by rw [HS.out]; exact state_in HC.out.k.how a1
        go_wp2
        go_ret
        exact ⟨rfl, HBW.out⟩

set_option maxRecDepth 100000 in
theorem lifted (os : Os) (started : os.Started) (H : Type) (enc : TypeId × Value → H) :
    ReturnsInHanded {} Tryz.checked os 7 .any (Rows.partOverSpec.pre6 enc Tryz.prog Tryz.f7 Rows.partOverRow.domain false) (Rows.partOverSpec.post enc Tryz.prog Tryz.f7 false true false false) := by
  refine returnsInHanded_of_change (C := Tryz.checked) own started (by kernel_rfl) Tryz.func7
    (ChangeSpec.witness6 (enc := enc) (C := Tryz.checked) false ⟨#[], #[.slice none 0 0, .int .i64 0], []⟩ 8 (by kernel_rfl) (by kernel_rfl) (by kernel_rfl) (by kernel_rfl)) ?_
  intro W base args ds gs before hval0 hW hcnd _
  have hval : ∀ (j : Nat) t v, Tryz.f7.params[j]? = some t → args[j]? = some v → Value.okWide Tryz.prog W .any base t v := hval0
  have hW' := hW
  obtain ⟨p, q, hA0, hV, rfl, hfz, hnd⟩ := hW
  have hA : DataW.TrodAll enc Tryz.prog W 0 (fun _ => true) true Tryz.f7.params.toList args.toList ds p := hA0
  rw [Tryz.params7] at hA hval
  obtain ⟨v0, vs0, d0, ds0, p0, q0, hargs, rfl, rfl, h0, r0⟩ := trodAll_cons hA
  obtain ⟨v1, vs1, d1, ds1, p1, q1, rfl, rfl, rfl, h1, r1⟩ := trodAll_cons r0
  obtain ⟨rfl, rfl, rfl⟩ := trodAll_nil r1
  obtain rfl : args = #[v0, v1] := by cases args; simp_all
  obtain ⟨rfl, rfl⟩ := trodVars_none hV
  obtain ⟨a0, len0, cap0, rfl⟩ := okWide_slice Tryz.underlying51 (hval 0 51 v0 rfl rfl)
  have k0 := h0
  have lt0 : ∀ x ∈ p0, x.block < W.heap.size := by obtain ⟨m, hm⟩ := k0; exact DataW.trod_lt m _ _ _ hm
  obtain ⟨z0, l0, w0⟩ : ∃ xs : List QAct, xs.length = len0 ∧ QActsOf W a0 cap0 xs := by
    obtain ⟨fuel, hf⟩ := h0
    exact qacts_open Tryz.underlying51 Tryz.underlying55 Tryz.underlying3 rfl rfl rfl Tryz.underlying31 Tryz.underlying2 Tryz.underlying28 Tryz.underlying28 Tryz.underlying2 Tryz.underlying5 Tryz.underlying29 Tryz.underlying80 Tryz.underlying38 Tryz.underlying5 Tryz.underlying9 Tryz.underlying4 rfl rfl rfl rfl rfl rfl rfl rfl rfl (by kernel_rfl) (by kernel_rfl) (by kernel_rfl) (by kernel_rfl) (by kernel_rfl) (by kernel_rfl) (by kernel_rfl) (by kernel_rfl) (by kernel_rfl) (by kernel_rfl) (by kernel_rfl) Tryz.underlying28 Tryz.underlying47 Tryz.underlying3 Tryz.underlying2 Tryz.underlying28 Tryz.underlying28 Tryz.underlying29 Tryz.underlying4 Tryz.underlying45 Tryz.underlying3 rfl rfl rfl rfl rfl rfl rfl (by kernel_rfl) (by kernel_rfl) (by kernel_rfl) (by kernel_rfl) (by kernel_rfl) (by kernel_rfl) (by kernel_rfl) (by kernel_rfl) rfl rfl rfl rfl (by kernel_rfl) (by kernel_rfl) (by kernel_rfl) (by kernel_rfl) (by kernel_rfl) hf
  have k1 := h1
  have lt1 : ∀ x ∈ p1, x.block < W.heap.size := by obtain ⟨m, hm⟩ := k1; exact DataW.trod_lt m _ _ _ hm
  obtain ⟨a1, rfl, rfl, rfl, w1⟩ := open_int Tryz.underlying2 (hval 1 2 v1 rfl rfl) h1
  clear hA0 hval0
  refine (walk a0 len0 cap0 z0 a1 W l0 w0 w1).mono fun e W' ⟨he, bel⟩ => ?_
  subst he
  exact ⟨_, rfl, _, _, _, [], _, [], hW', trodAll_mk1 (shut_bool Tryz.underlying4 _), (trodAll_cons_mk (Below.trod laidOut (by kernel_rfl) (of_decide_eq_true (by kernel_rfl)) k0 bel lt0) (trodAll_cons_mk (Below.trod laidOut (by kernel_rfl) (of_decide_eq_true (by kernel_rfl)) k1 bel lt1) trodAll_mk0)), rfl, bel.frame _, fun h => by cases h⟩

theorem over : Rows.partOverRow.holds Tryz.pinned (OpenSpec.ofChange Rows.partOverSpec) :=
  OpenClaim.holds_of_wide 7 Tryz.f7 rfl rfl rfl rfl rfl rfl rfl ⟨rfl, rfl, rfl, rfl, rfl⟩ rfl rfl rfl rfl rfl (by kernel_rfl) Tryz.func7 (by kernel_rfl)
    (of_decide_eq_true (by kernel_rfl)) (by unfold Func.isWrapper; first | (rw [if_pos (by decide +kernel)]; kernel_rfl) | (rw [if_neg (by decide +kernel)]; exact ⟨rfl, rfl⟩))
    (fun os started H enc _ => lifted os started H enc)
theorem proved : Rows.PartOverSaid := over
#print axioms proved
end Go.Proofs.YtileidbdmpeciaaGreat.partOver
namespace Go.Proofs.YtileidbdmpeciaaGreat
/-- PartOver, as given. -/
theorem partOver_holds : Rows.PartOverSaid := partOver.proved
end Go.Proofs.YtileidbdmpeciaaGreat
