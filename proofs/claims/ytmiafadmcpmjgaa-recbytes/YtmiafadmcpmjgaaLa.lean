/-
  What layer 14's laws share: awake, long, great.
  What layer 14's laws share besides: a record's bytes are bytes, and not many.
-/
import Derived.Test.YtmiafadmcpmjgaaLo
import Derived.Test.YtmiafadmcpmjgaaLp
import Derived.Test.YtmiafadmcpmjgaaOp
import Derived.Test.YtmiafadmcpmjgaaRr
namespace Go.Proofs.Ytmiafadmcpmjgaa
open Go.RowKit
set_option linter.unusedVariables false
set_option linter.unusedSimpArgs false

/-- Get of bytes that are a record's. -/
theorem lGet_ok (a : Option Addr) (cap len : Nat) (zs : List Int) (w : World) (hr : Row w a zs) (hl : zs.length = len) (hc : len ≤ cap) (hm : len ≤ 1000000) (kd id s m t n : Int) (l : List Wrt) (y : Bool) (ps : List Int) (hg : getL zs = some ⟨kd, id, s, m, t, n, l, y, ps⟩) :
    Calls Try.prog 8 #[.slice a len cap] w fun e w' => ∃ (a' : Option Addr) (c' : Nat) (pa' : Option Addr) (pc' : Nat), e = .returned (.tuple #[.agg #[.int .i64 kd, .int .i64 id, .int .i64 s, .int .u8 m, .int .i64 t, .int .u8 n, .slice a' l.length c', .bool y, .slice pa' ps.length pc'], .int .i64 0]) ∧ RcW w' ⟨⟨kd, id, s, m, t, n, l, y, ps⟩, a', c', pa', pc'⟩ ∧ Below w.heap.size w w' := by
  refine (lGet_any a cap len zs w hr hl hc hm).mono ?_
  rintro e w' ⟨⟨R, a', c', pa', pc'⟩, E, rfl, h1, h2, h3, h4, h5 | h5, h6⟩
  · rw [hg] at h5
    obtain ⟨h5, rfl⟩ := h5
    injection h5 with h5
    simp only at h5
    subst h5
    exact ⟨a', c', pa', pc', rfl, h1, h6⟩
  · rw [hg] at h5; simp at h5
theorem lGet_no (a : Option Addr) (cap len : Nat) (zs : List Int) (w : World) (hr : Row w a zs) (hl : zs.length = len) (hc : len ≤ cap) (hm : len ≤ 1000000) (hg : getL zs = none) :
    Calls Try.prog 8 #[.slice a len cap] w fun e w' => e = .returned (.tuple #[.agg #[.int .i64 0, .int .i64 0, .int .i64 0, .int .u8 0, .int .i64 0, .int .u8 0, .slice none 0 0, .bool false, .slice none 0 0], .int .i64 3]) ∧ Below w.heap.size w w' := by
  refine (lGet_any a cap len zs w hr hl hc hm).mono ?_
  rintro e w' ⟨x, E, rfl, h1, h2, h3, h4, h5 | h5, h6⟩
  · rw [hg] at h5; simp at h5
  · obtain ⟨_, rfl, rfl⟩ := h5
    exact ⟨rfl, h6⟩
def awakeR : Rcd := ⟨3, 1, 0, 0, 0, 0, [], false, []⟩
theorem awakeR_good : goodR awakeR = true := by decide
theorem awakeR_ok : RcdOk awakeR := ⟨by decide, by decide, by decide, by decide, by decide, by decide, fun W hW => by simp [awakeR] at hW, fun W hW => by simp [awakeR] at hW⟩
theorem awakeR_bytes : recB awakeR = [3, 2] := by decide
theorem awakeR_get : getL [3, 2] = some ⟨3, 1, 0, 0, 0, 0, [], false, []⟩ := by
  rw [getL_eq (fun z hz => by simp at hz; omega), ← awakeR_bytes]
  exact getR_back awakeR awakeR_good awakeR_ok
theorem row_two (u : World) (x y : Int) (hx : 0 ≤ x ∧ x ≤ 255) (hy : 0 ≤ y ∧ y ≤ 255) (q : Nat) (hq : q = u.heap.size) : Row (u.alloc (.cells #[.int .u8 x, .int .u8 y] 5)) (some ⟨q, 0, none⟩) [x, y] := by
  subst hq
  refine ⟨fun z hz => by simp at hz; omega, .inr ⟨_, 0, rfl, fun j hj => ?_⟩⟩
  have hj' : j = 0 ∨ j = 1 := by simp at hj; omega
  rcases hj' with rfl | rfl <;> (rw [World.cell?_alloc_new]; rfl)
theorem rc_none (w : World) (kd id s m t n : Int) (y : Bool) (hk : -9223372036854775808 ≤ kd ∧ kd ≤ 9223372036854775807) (hi : -9223372036854775808 ≤ id ∧ id ≤ 9223372036854775807) (hm : 0 ≤ m ∧ m ≤ 255) (hn : 0 ≤ n ∧ n ≤ 255) : RcW w ⟨⟨kd, id, s, m, t, n, [], y, []⟩, none, 0, none, 0⟩ :=
  ⟨WrtsAt.none _ _, Nat.zero_le _, Nat.zero_le _, IntsAt.none _ _, Nat.zero_le _, Nat.zero_le _, hk, ⟨hi.1, hi.2, hm.1, hm.2, hn.1, hn.2, fun W hW => by simp at hW, fun W hW => by simp at hW⟩⟩
open Classical in
set_option maxHeartbeats 4000000 in
set_option maxRecDepth 8000 in
theorem awake_any (w : World) : Calls Try.prog 7 #[] w fun e w' => e = .returned (.bool true) ∧ Below w.heap.size w w' := by
  obtain ⟨W2, hW2⟩ : ∃ W2, W2 = (w.alloc (.cells #[.int .i64 3, .int .i64 1, .int .i64 0, .int .u8 0, .int .i64 0, .int .u8 0, .slice none 0 0, .bool false, .slice none 0 0] 28)).alloc (.cells #[.int .u8 3, .int .u8 2] 5) := ⟨_, rfl⟩
  have HW2 : Hid ((w.alloc (.cells #[.int .i64 3, .int .i64 1, .int .i64 0, .int .u8 0, .int .i64 0, .int .u8 0, .slice none 0 0, .bool false, .slice none 0 0] 28)).alloc (.cells #[.int .u8 3, .int .u8 2] 5) = W2) := hW2.symm
  have HB2 : Hid (Below w.heap.size w W2) := by rw [hW2]; exact ((Below.refl _ _).alloc (Nat.le_refl _) _).alloc (by simp) _
  have hrow : Row W2 (some ⟨w.heap.size + 1, 0, none⟩) [3, 2] := by rw [hW2]; exact row_two _ 3 2 (by omega) (by omega) _ (by rw [World.size_alloc])
  have hbx : RBox W2 w.heap.size 3 1 0 0 0 0 none 0 0 false none 0 0 := by
    rw [hW2]; exact (RBox.made w 28 3 1 0 0 0 0 none 0 0 false none 0 0).past ((Below.refl _ _).alloc (Nat.le_refl _) _)
  have FB : Hid (∀ u, Below W2.heap.size W2 u → RBox u w.heap.size 3 1 0 0 0 0 none 0 0 false none 0 0) := fun u hu => hbx.past hu
  have CG : Hid (Calls Try.prog 8 #[.slice (some ⟨w.heap.size + 1, 0, none⟩) 2 2] W2 fun e w' => ∃ (a' : Option Addr) (c' : Nat) (pa' : Option Addr) (pc' : Nat), e = .returned (.tuple #[.agg #[.int .i64 3, .int .i64 1, .int .i64 0, .int .u8 0, .int .i64 0, .int .u8 0, .slice a' 0 c', .bool false, .slice pa' 0 pc'], .int .i64 0]) ∧ RcW w' ⟨⟨3, 1, 0, 0, 0, 0, [], false, []⟩, a', c', pa', pc'⟩ ∧ Below W2.heap.size W2 w') := lGet_ok (some ⟨w.heap.size + 1, 0, none⟩) 2 2 [3, 2] W2 hrow rfl (by omega) (by omega) 3 1 0 0 0 0 [] false [] awakeR_get
  have CP : Hid (∀ u, Calls Try.prog 12 #[.agg #[.int .i64 3, .int .i64 1, .int .i64 0, .int .u8 0, .int .i64 0, .int .u8 0, .slice none 0 0, .bool false, .slice none 0 0]] u fun e w' => ∃ a c, e = .returned (.slice a 2 c) ∧ Row w' a [3, 2] ∧ Below u.heap.size u w') := fun u => by
    refine (lput_rec ⟨awakeR, none, 0, none, 0⟩ u (rc_none u 3 1 0 0 0 0 false (by omega) (by omega) (by omega) (by omega)) (by simp [awakeR]) (by simp [awakeR]) (fun W hW => by simp [awakeR] at hW)).mono ?_
    rintro e w' ⟨a, c, rfl, h1, h2⟩
    have e2 : recB (⟨awakeR, none, 0, none, 0⟩ : RcM).r = [3, 2] := awakeR_bytes
    rw [e2] at h1 ⊢
    obtain ⟨a', c', e3, hr, _⟩ := own_shape h1 (fun z hz => by simp at hz; omega)
    injection e3 with e4
    subst e4
    exact ⟨a, c, rfl, hr, h2⟩
  have CS : Hid (∀ u a' c' pa' pc', RcW u ⟨⟨3, 1, 0, 0, 0, 0, [], false, []⟩, a', c', pa', pc'⟩ → Calls Try.prog 19 #[.agg #[.int .i64 3, .int .i64 1, .int .i64 0, .int .u8 0, .int .i64 0, .int .u8 0, .slice a' 0 c', .bool false, .slice pa' 0 pc'], .agg #[.int .i64 3, .int .i64 1, .int .i64 0, .int .u8 0, .int .i64 0, .int .u8 0, .slice none 0 0, .bool false, .slice none 0 0]] u fun e w' => e = .returned (.bool true) ∧ Below u.heap.size u w') := fun u a' c' pa' pc' h => by
    have := lsame_any ⟨⟨3, 1, 0, 0, 0, 0, [], false, []⟩, a', c', pa', pc'⟩ ⟨⟨3, 1, 0, 0, 0, 0, [], false, []⟩, none, 0, none, 0⟩ u h (rc_none u 3 1 0 0 0 0 false (by omega) (by omega) (by omega) (by omega))
    rw [decide_eq_true rfl] at this
    exact this
  have CD : Hid (∀ u, Calls Try.prog 11 #[.agg #[.int .i64 3, .int .i64 1, .int .i64 0, .int .u8 0, .int .i64 0, .int .u8 0, .slice none 0 0, .bool false, .slice none 0 0]] u fun e w' => e = .returned (.bool true) ∧ Below u.heap.size u w') := fun u => by
    have := lgood_any ⟨awakeR, none, 0, none, 0⟩ u (rc_none u 3 1 0 0 0 0 false (by omega) (by omega) (by omega) (by omega))
    have e2 : goodR (⟨awakeR, none, 0, none, 0⟩ : RcM).r = true := awakeR_good
    rw [e2] at this
    exact this
  have hcv : ∀ (u : World) a c, Row u a [3, 2] → (convert 32 9 (.slice a 2 c)).run Try.prog u = .ok (.string ⟨#[3, 2]⟩) u := fun u a c h => str_of_row h c
  have HCV : Hid _ := hcv
  clear hW2 hrow hbx hcv
  go_enter Try.func7, Try.ntmps7
  go_wp2_with (first
    | (have hgo := HX.out; clear hgo; go_at_call 11; refine (CD.out _).mono ?_; rintro e u5 ⟨rfl, hb⟩; have B5 : Hid (Below w.heap.size w u5) := HY.out.2.2.trans (hb.mono HY.out.2.2.size); clear hb)
    | (have hgo := HX.out; clear hgo; go_at_call 19; refine (CS.out _ a' c' pa' pc' HX.out.1).mono ?_; rintro e u4 ⟨rfl, hb⟩; have HY : Hid (RBox u4 w.heap.size 3 1 0 0 0 0 none 0 0 false none 0 0 ∧ True ∧ Below w.heap.size w u4) := ⟨HX.out.2.1.past hb, trivial, HX.out.2.2.2.trans (hb.mono HX.out.2.2.2.size)⟩; obtain ⟨q0, q1, q2, q3, q4, q5, q6, q7, q8⟩ := HY.out.1; clear hb)
    | (have hgo := H3.out; clear hgo; go_at_call 12; obtain ⟨U, hU⟩ : ∃ U, U = w3.alloc (.cells #[.int .i64 3, .int .i64 1, .int .i64 0, .int .u8 0, .int .i64 0, .int .u8 0, .slice a' 0 c', .bool false, .slice pa' 0 pc'] 28) := ⟨_, rfl⟩; rw [← hU]; have ba : Below w3.heap.size w3 U := (by rw [hU]; exact (Below.refl _ _).alloc (Nat.le_refl _) _); have bx2 : RBox U w3.heap.size 3 1 0 0 0 0 a' 0 c' false pa' 0 pc' := (by rw [hU]; exact RBox.made w3 28 3 1 0 0 0 0 a' 0 c' false pa' 0 pc'); refine (CP.out U).mono ?_; rintro e u3 ⟨a3, c3, rfl, hr3, hb⟩; have hcv := HCV.out u3 a3 c3 hr3; have HX : Hid (RcW u3 ⟨⟨3, 1, 0, 0, 0, 0, [], false, []⟩, a', c', pa', pc'⟩ ∧ RBox u3 w.heap.size 3 1 0 0 0 0 none 0 0 false none 0 0 ∧ RBox u3 w3.heap.size 3 1 0 0 0 0 a' 0 c' false pa' 0 pc' ∧ Below w.heap.size w u3) := ⟨(H3.out.1.past ba).past hb, FB.out u3 ((H3.out.2.trans (ba.mono H3.out.2.size)).trans (hb.mono (Nat.le_trans H3.out.2.size ba.size))), bx2.past hb, HB2.out.trans (((H3.out.2.trans (ba.mono H3.out.2.size)).trans (hb.mono (Nat.le_trans H3.out.2.size ba.size))).mono HB2.out.size)⟩; obtain ⟨q0, q1, q2, q3, q4, q5, q6, q7, q8⟩ := HX.out.2.1; obtain ⟨z0, z1, z2, z3, z4, z5, z6, z7, z8⟩ := HX.out.2.2.1; clear hr3 hb ba bx2 hU)
    | (go_at_call 8; rw [HW2.out]; refine CG.out.mono ?_; rintro e w3 ⟨a', c', pa', pc', rfl, h1, h2⟩; have H3 : Hid (RcW w3 ⟨⟨3, 1, 0, 0, 0, 0, [], false, []⟩, a', c', pa', pc'⟩ ∧ Below W2.heap.size W2 w3) := ⟨h1, h2⟩; obtain ⟨y0, y1, y2, y3, y4, y5, y6, y7, y8⟩ := FB.out w3 h2; have hlt : w.heap.size < w3.heap.size := cell_lt y0; clear h1 h2))
  go_ret
  exact ⟨rfl, B5.out⟩
/-- More than is asked of? -/
def longB (l : List Wrt) : Bool := decide (20 < l.length) || l.any (fun W => decide (250 < W.v.length))
def greatB (r : Rcd) : Bool := longB r.l || decide (12 < r.ps.length)
theorem longB_no {l : List Wrt} (h : longB l = false) : l.length ≤ 20 ∧ ∀ W ∈ l, W.v.length ≤ 250 := by
  unfold longB at h
  simp only [Bool.or_eq_false_iff, decide_eq_false_iff_not, List.any_eq_false, decide_eq_true_eq] at h
  exact ⟨by omega, fun W hW => by have := h.2 W hW; omega⟩
theorem greatB_no {r : Rcd} (h : greatB r = false) : (r.l.length ≤ 20 ∧ ∀ W ∈ r.l, W.v.length ≤ 250) ∧ r.ps.length ≤ 12 := by
  unfold greatB at h
  simp only [Bool.or_eq_false_iff, decide_eq_false_iff_not] at h
  exact ⟨longB_no h.1, by omega⟩
set_option maxHeartbeats 1000000 in
theorem long_any (a : Option Addr) (N cap : Nat) (l : List Wrt) (w : World) (hl : l.length = N) (hat : WrtsAt w a l) (hN : N ≤ 9223372036854775807) :
    Calls Try.prog 21 #[.slice a N cap] w fun e w' => e = .returned (.bool (longB l)) ∧ w' = w := by
  have HL : Hid (l.length = N) := hl
  have HA : Hid (WrtsAt w a l) := hat
  obtain ⟨R, hR⟩ : ∃ R, R = longB l := ⟨_, rfl⟩
  have HR : Hid (R = longB l) := hR
  rw [← hR]
  by_cases h20 : 20 < N
  · have b20 : (20 : Int) < (N : Int) := by omega
    have E : Hid (R = true) := by rw [HR.out]; unfold longB; rw [decide_eq_true (by rw [hl]; exact h20)]; rfl
    clear hl hat hR
    go_enter Try.func21, Try.ntmps21
    go_wp2
    go_ret
    exact ⟨by rw [E.out]; rfl, rfl⟩
  · have b20 : ¬ (20 : Int) < (N : Int) := by omega
    have HQ : Hid (R = l.any (fun W => decide (250 < W.v.length))) := by rw [HR.out]; unfold longB; rw [decide_eq_false (by rw [hl]; exact h20)]; rfl
    clear hl hat hR
    go_enter Try.func21, Try.ntmps21
    go_wp2
    go_loopw [3] (fun iv wr => ∃ i : Nat, iv = .int .i64 i ∧ i ≤ N ∧ wr = w ∧ Hid (∀ j W, j < i → l[j]? = some W → ¬ 250 < W.v.length)) (fun iv _ => N - (intOf iv).toNat)
    case atStart => exact ⟨0, rfl, Nat.zero_le _, rfl, fun j W hj => by omega⟩
    case round =>
      obtain ⟨i, rfl, hi, rfl, HI⟩ := hrel
      have hi0 : (0 : Int) ≤ (i : Int) := by omega
      by_cases hlt : i < N
      · have bl : (i : Int) < (N : Int) := by omega
        obtain ⟨W, hW⟩ : ∃ W, l[i]? = some W := ⟨_, List.getElem?_eq_getElem (by rw [HL.out]; exact hlt)⟩
        obtain ⟨b, o, rfl, hwa, hwo⟩ := HA.out.wrt hW
        have hc16 := (hwa.cells hwo.key).1
        have hsz := strOfNums_size W.v
        obtain ⟨st, hst⟩ : ∃ st, st = strOfNums W.v := ⟨_, rfl⟩
        rw [← hst] at hc16 hsz
        have HSZ : Hid (st.size = W.v.length) := hsz
        by_cases h250 : 250 < st.size
        · have b250 : (250 : Int) < (st.size : Int) := by omega
          have E : Hid (R = true) := by
            rw [HQ.out]
            exact List.any_eq_true.2 ⟨W, List.mem_of_getElem? hW, decide_eq_true (by rw [← HSZ.out]; exact h250)⟩
          clear hW hwa hwo hst hsz
          go_wp2
          go_ret
          exact ⟨by rw [E.out]; rfl, by first | rfl | trivial⟩
        · have b250 : ¬ (250 : Int) < (st.size : Int) := by omega
          have HN1 : Hid (∀ j W, j < i + 1 → l[j]? = some W → ¬ 250 < W.v.length) := fun j V hj hV => by
            by_cases e : j = i
            · subst e
              rw [hW] at hV
              injection hV with hV
              subst hV
              rw [← HSZ.out]; exact h250
            · exact HI.out j V (by omega) hV
          clear hW hwa hwo hst hsz
          go_wp2
          exact ⟨⟨i + 1, by go_num, by omega, by first | rfl | trivial, HN1⟩, by simp [intOf]; omega⟩
      · have bl : ¬ (i : Int) < (N : Int) := by omega
        have E : Hid (R = false) := by
          rw [HQ.out]
          refine List.any_eq_false.2 (fun W hW => ?_)
          obtain ⟨j, hj⟩ := List.getElem?_of_mem hW
          have hjl := (List.getElem?_eq_some_iff.1 hj).1
          have := HI.out j W (by rw [HL.out] at hjl; omega) hj
          simpa using this
        go_wp2
        go_ret
        exact ⟨by rw [E.out]; rfl, by first | rfl | trivial⟩
theorem great_any (x : RcM) (w : World) (h : RcIn w x) :
    Calls Try.prog 14 #[rcv x] w fun e w' => e = .returned (.bool (greatB x.r)) ∧ Below w.heap.size w w' := by
  obtain ⟨⟨kd, id, s, m, t, n, l, y, ps⟩, a, c, pa, pc⟩ := x
  obtain ⟨hwr, hps, hpr, hpf, hkd, hok⟩ := h
  simp only at hwr hps hpr hpf hkd
  obtain ⟨N, hN⟩ : ∃ N, l.length = N := ⟨_, rfl⟩
  obtain ⟨M, hM⟩ : ∃ N, ps.length = N := ⟨_, rfl⟩
  unfold rcv encR
  simp only
  simp only [hN, hM] at hpr hpf ⊢
  obtain ⟨U, hU⟩ : ∃ U, U = w.alloc (.cells #[.int .i64 kd, .int .i64 id, .int .i64 s, .int .u8 m, .int .i64 t, .int .u8 n, .slice a N c, .bool y, .slice pa M pc] 28) := ⟨_, rfl⟩
  have HU : Hid (w.alloc (.cells #[.int .i64 kd, .int .i64 id, .int .i64 s, .int .u8 m, .int .i64 t, .int .u8 n, .slice a N c, .bool y, .slice pa M pc] 28) = U) := hU.symm
  have HB : Hid (Below w.heap.size w U) := by rw [hU]; exact (Below.refl _ _).alloc (Nat.le_refl _) _
  have hbx : RBox U w.heap.size kd id s m t n a N c y pa M pc := by
    rw [hU]; exact RBox.made w 28 kd id s m t n a N c y pa M pc
  have CL : Hid (Calls Try.prog 21 #[.slice a N c] U fun e w' => e = .returned (.bool (longB l)) ∧ w' = U) := long_any a N c l U hN (hwr.at_.past HB.out) (by have := hwr.few; omega)
  obtain ⟨lb, hlb⟩ : ∃ lb, lb = longB l := ⟨_, rfl⟩
  obtain ⟨R, hR⟩ : ∃ R, R = greatB ⟨kd, id, s, m, t, n, l, y, ps⟩ := ⟨_, rfl⟩
  have HR : Hid (R = (lb || decide (12 < M))) := by rw [hR, hlb, ← hM]; rfl
  rw [← hR]
  rw [← hlb] at CL
  obtain ⟨q0, q1, q2, q3, q4, q5, q6, q7, q8⟩ := hbx
  clear hwr hps hpr hkd hok hN hM hU hlb hR
  cases lb with
  | true =>
    have E : Hid (R = true) := by rw [HR.out]; simp [Hid]
    clear HR
    go_enter Try.func14, Try.ntmps14
    go_wp2_with (go_at_call 21; rw [HU.out]; refine CL.out.mono ?_; rintro e u1 ⟨rfl, hu⟩; obtain rfl := hu.symm; clear hu)
    go_ret
    exact ⟨by rw [E.out]; rfl, HB.out⟩
  | false =>
    by_cases h12 : 12 < M
    · have b12 : (12 : Int) < (M : Int) := by omega
      have E : Hid (R = true) := by rw [HR.out]; simp [Hid, h12]
      clear HR
      go_enter Try.func14, Try.ntmps14
      go_wp2_with (go_at_call 21; rw [HU.out]; refine CL.out.mono ?_; rintro e u1 ⟨rfl, hu⟩; obtain rfl := hu.symm; clear hu)
      go_ret
      exact ⟨ret_bool (by first | (rw [E.out]; done) | (rw [E.out]; simp; done) | (rw [E.out]; simp; omega)), HB.out⟩
    · have b12 : ¬ (12 : Int) < (M : Int) := by omega
      have E : Hid (R = false) := by rw [HR.out]; simp [Hid, h12]
      clear HR
      go_enter Try.func14, Try.ntmps14
      go_wp2_with (go_at_call 21; rw [HU.out]; refine CL.out.mono ?_; rintro e u1 ⟨rfl, hu⟩; obtain rfl := hu.symm; clear hu)
      go_ret
      exact ⟨ret_bool (by first | (rw [E.out]; done) | (rw [E.out]; simp; done) | (rw [E.out]; simp; omega)), HB.out⟩
end Go.Proofs.Ytmiafadmcpmjgaa

namespace Go.Proofs.Ytmiafadmcpmjgaa
open Go.RowKit
set_option linter.unusedVariables false
set_option linter.unusedSimpArgs false

theorem Bt.room {w u : World} {zs : List Int} {a : Option Addr} {m c : Nat} (h : Bt w u zs a m c) : m ≤ c := by
  rcases h.own.2 with ⟨e2, e3⟩ | ⟨g, cap, cur, e2, _, _, h1, _⟩
  · omega
  · injection e2 with _ _ e4; omega
theorem Bt.past {w u u' : World} {zs : List Int} {a : Option Addr} {m c : Nat} (h : Bt w u zs a m c) (hb : Below u.heap.size u u') : Bt w u' zs a m c := ⟨own_below h.own hb (Nat.le_refl _), h.len, h.bytes, h.below.trans (hb.mono h.below.size)⟩
theorem ints_bytes {l : List Int} (h : ∀ z ∈ l, 0 ≤ z ∧ z ≤ 7) : Bys (l.flatMap Pl.putI) := fun z hz => by
  obtain ⟨x, hx, hz⟩ := List.mem_flatMap.1 hz
  have := h x hx
  exact putI_bytes x (by omega) (by omega) z hz
theorem wrts_ok {r : Rcd} (ho : RcdOk r) (h2 : ∀ W ∈ r.l, W.v.length ≤ 250) : ∀ W ∈ r.l, WrtOk W ∧ W.v.length ≤ 1000 := fun W hW => ⟨⟨ho.keys W hW, ho.vals W hW, by have := h2 W hW; unfold maxLen; omega⟩, by have := h2 W hW; omega⟩
theorem recB_bytes (r : Rcd) (ho : RcdOk r) (h1 : r.l.length ≤ 20) (h2 : ∀ W ∈ r.l, W.v.length ≤ 250) (h3 : r.ps.length ≤ 12) : Bys (recB r) := by
  unfold recB
  by_cases hg : goodR r = true
  · rw [if_pos hg]
    have hz := Pl.zig_bd r.id ho.id0 ho.id1
    have hk := good_kind hg
    refine (putI_bytes _ (by omega) (by omega)).app ((putI_bytes _ hz.1 hz.2).app ?_)
    unfold tailB
    rcases good_has hg with ⟨k, _, _⟩ | ⟨k, _⟩ | k | ⟨k, _, hp⟩ | ⟨k, _⟩
    · rw [if_pos k]
      exact (stp_bytes _ _ ⟨ho.m0, ho.m1⟩).app ((stp_bytes _ _ ⟨ho.n0, ho.n1⟩).app (wrtsB_bytes (wrts_ok ho h2) (by omega)))
    · rw [if_neg (by omega), if_pos (.inl k)]; exact stp_bytes _ _ ⟨ho.n0, ho.n1⟩
    · rw [if_neg (by omega), if_neg (by omega), if_neg (by omega)]; intro z hz; simp at hz
    · rw [if_neg (by omega), if_neg (by omega), if_pos k]
      intro z hz
      rcases List.mem_cons.1 hz with rfl | hz
      · exact flagB_bd _
      · refine ((stp_bytes _ _ ⟨ho.n0, ho.n1⟩).app ?_) z hz
        unfold partsL
        exact (putI_bytes _ (by omega) (by omega)).app (ints_bytes hp)
    · rw [if_neg (by omega), if_pos (.inr k)]; exact stp_bytes _ _ ⟨ho.n0, ho.n1⟩
  · rw [if_neg hg]; intro z hz; simp at hz
theorem recB_len (r : Rcd) (ho : RcdOk r) (h1 : r.l.length ≤ 20) (h2 : ∀ W ∈ r.l, W.v.length ≤ 250) (h3 : r.ps.length ≤ 12) : (recB r).length ≤ 100000 := by
  unfold recB
  by_cases hg : goodR r = true
  · rw [if_pos hg]
    have e1 := putL_len r.kd
    have e2 := putL_len (Pl.zigI r.id)
    have e3 : (tailB r).length ≤ 50000 := by
      unfold tailB
      have t1 := stp_len r.s r.m
      have t2 := stp_len r.t r.n
      have t3 := wrts_len (l := r.l) (fun W hW => ⟨ho.keys W hW, by have := h2 W hW; omega⟩)
      have t4 := ints_len r.ps
      have t5 := putL_len (r.l.length : Int)
      have t6 := putL_len (r.ps.length : Int)
      by_cases k1 : r.kd = 1
      · rw [if_pos k1]; unfold wrtsB; simp only [List.length_append]; omega
      rw [if_neg k1]
      by_cases k2 : r.kd = 2 ∨ r.kd = 5
      · rw [if_pos k2]; omega
      rw [if_neg k2]
      by_cases k4 : r.kd = 4
      · rw [if_pos k4]; unfold partsL; simp only [List.length_cons, List.length_append]; omega
      rw [if_neg k4]; simp
    simp only [List.length_append]; omega
  · rw [if_neg hg]; simp
end Go.Proofs.Ytmiafadmcpmjgaa

