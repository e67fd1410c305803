/-
  The entries of a table's answer, in every world behind.
  What the landed parts answer: Scan, and who blocks a stretch (package part: anyBlocked).
  What follows from chapter 16: what is prepared can be committed; what was read stays; what is over is over. No program is named here.
-/
import Derived.Test.YtileidbdmpeciaaGreatAu55
import Derived.Test.YtileidbdmpeciaaGreatAu56
import Derived.Test.YtileidbdmpeciaaGreatAu85
import Derived.Test.YtileidbdmpeciaaGreatStoC8
import Derived.Test.YtileidbdmpeciaaGreatAu81
namespace Go.Proofs.YtileidbdmpeciaaGreat
open Go.RowKit
set_option linter.unusedVariables false

/-- An entry of an answer, in every world behind. -/
theorem AllOf.open {u : World} {B : Nat} {a : Option Addr} {N c : Nat} {L : List EntM} {E : List Ent} (h : AllOf u B (.slice a N c) L E) : N = L.length ∧ N ≤ c ∧ ∀ i y, L[i]? = some y → ∃ g, a = some ⟨g, 0, none⟩ ∧ Hid (∀ v, Below u.heap.size u v → EntAt v g (i * 6) y ∧ EntW v y) := by
  have hr := h.row
  have hN : N = L.length ∧ N ≤ c := by
    rcases hr.2 with ⟨e1, e2⟩ | ⟨g, cap, cur, e1, _, _, e5, _⟩
    · injection e1 with x1 x2 x3
      omega
    · injection e1 with x1 x2 x3
      omega
  refine ⟨hN.1, hN.2, fun i y hy => ?_⟩
  rcases hr.2 with ⟨e1, e2⟩ | ⟨g, cap, cur, e1, hg, hh, e5, _⟩
  · rw [List.eq_nil_of_length_eq_zero e2] at hy
    simp at hy
  · injection e1 with x1 x2 x3
    subst x1
    have hr2 := hr
    rw [hN.1] at hr2
    refine ⟨g, rfl, fun v hv => ⟨⟨?_⟩, ((h.own y (List.mem_of_getElem? hy)).past hv).ent⟩⟩
    have hl := ((own_lies hr2).el (size := 6) (fun z _ => encE_len z) hy).past hv
    rwa [Nat.zero_add] at hl
end Go.Proofs.YtileidbdmpeciaaGreat

namespace Go.Proofs.YtileidbdmpeciaaGreat
open Go.RowKit
set_option linter.unusedVariables false
set_option linter.unusedSimpArgs false

set_option maxHeartbeats 2000000 in
/-- Is a write's key within? -/
theorem pbw_any (W : Wrt) (hW : WrtOk W) (a b : List Int) (ha : Ky a) (hb : Ky b) (ba bb : Nat) (w : World) (h1 : KeyAt w ba 0 a) (h2 : KeyAt w bb 0 b) :
    Calls Tryz.prog 106 #[wv W, .pointer (some ⟨ba, 0, none⟩), .pointer (some ⟨bb, 0, none⟩)] w fun e w' => e = .returned (.bool (withinK W.k a b)) ∧ Below w.heap.size w w' := by
  obtain ⟨C, hC⟩ : ∃ C, C = encW W := ⟨_, rfl⟩
  obtain ⟨w1, hw1⟩ : ∃ u, u = w.alloc (.cells C.toArray 80) := ⟨_, rfl⟩
  have hmine : WrtMine w1 w.heap.size 0 W := by rw [hw1, hC]; exact WrtMine.made w 80 W hW.key
  have HB1 : Hid (Below w.heap.size w w1) := by rw [hw1]; exact (Below.refl _ _).alloc (Nat.le_refl _) _
  have F1 : Hid (KeyAt w1 w.heap.size 0 W.k) := hmine.keyat
  have F2 : Hid (KeyAt w1 ba 0 a) := h1.past HB1.out
  have F3 : Hid (KeyAt w1 bb 0 b) := h2.past HB1.out
  have K1 : Hid (Ky W.k) := hW.key
  have K2 : Hid (Ky a) := ha
  have K3 : Hid (Ky b) := hb
  obtain ⟨R, hR⟩ : ∃ R, R = withinK W.k a b := ⟨_, rfl⟩
  have CW : Hid (∀ u, Calls Tryz.prog 107 #[kv W.k, kv a, kv b] u fun e w' => e = .returned (.bool R) ∧ Below u.heap.size u w') := fun u => by rw [hR]; exact kwithin_any W.k a b hW.key ha hb u
  have HW1 : Hid (w.alloc (.cells C.toArray 80) = w1) := hw1.symm
  show Calls Tryz.prog 106 #[.agg (encW W).toArray, .pointer (some ⟨ba, 0, none⟩), .pointer (some ⟨bb, 0, none⟩)] w _
  rw [← hC, ← hR]
  generalize W.k = j at *
  clear hmine hw1 hC hW ha hb h1 h2 hR
  go_enter Tryz.func106, Tryz.ntmps106
  go_wp2_with (first | ((with_reducible show wpList _ _ _ (Oper.mk (some 6) _ _ _ _ _ :: _) _ _); rw [HW1.out]; refine wpList_load_keyD 6 (by rfl) (by rfl) _ (by rfl) w.heap.size 0 (by rfl) j K1.out F1.out ?_) | ((with_reducible show wpList _ _ _ (Oper.mk (some 7) _ _ _ _ _ :: _) _ _); refine wpList_load_keyD 7 (by rfl) (by rfl) _ (by rfl) ba 0 (by rfl) a K2.out F2.out ?_) | ((with_reducible show wpList _ _ _ (Oper.mk (some 8) _ _ _ _ _ :: _) _ _); refine wpList_load_keyD 8 (by rfl) (by rfl) _ (by rfl) bb 0 (by rfl) b K3.out F3.out ?_) | (go_at_call 107; refine (CW.out _).mono ?_; rintro e w2 ⟨rfl, hb2⟩; have HB2 : Hid (Below w.heap.size w w2) := HB1.out.trans (hb2.mono HB1.out.size); clear hb2))
  go_ret
  exact ⟨rfl, HB2.out⟩
/-- Does an entry block a stretch? -/
def blkE (a b : List Int) (t n : Int) (e : Ent) : Bool := !decide (0 < cmpS e.t e.n t n) && e.l.any (fun W => withinK W.k a b)
theorem blk_range (T : List Ent) (a b : List Int) (t n : Int) : rangeB T a b t n = T.any (blkE a b t n) := by
  unfold rangeB
  congr 1
  funext e
  unfold blkE
  by_cases h : 0 < cmpS e.t e.n t n
  · have h2 : decide (cmpS e.t e.n t n ≤ 0) = false := decide_eq_false (by omega)
    simp [h, h2]
  · have h2 : decide (cmpS e.t e.n t n ≤ 0) = true := decide_eq_true (by omega)
    simp [h, h2]
set_option maxHeartbeats 4000000 in
theorem pbe_any (x : EntM) (a b : List Int) (ha : Ky a) (hb : Ky b) (t n : Int) (bt ba bb : Nat) (w : World) (hx : EntW w x) (s0 : w.cell? ⟨bt, 0, none⟩ = some (.int .i64 t)) (s1 : w.cell? ⟨bt, 1, none⟩ = some (.int .u8 n)) (h1 : KeyAt w ba 0 a) (h2 : KeyAt w bb 0 b) :
    Calls Tryz.prog 105 #[ev x, .pointer (some ⟨bt, 0, none⟩), .pointer (some ⟨ba, 0, none⟩), .pointer (some ⟨bb, 0, none⟩)] w fun e w' => e = .returned (.bool (blkE a b t n x.e)) ∧ Below w.heap.size w w' := by
  obtain ⟨w1, hw1⟩ : ∃ u, u = w.alloc (.cells (encE x).toArray 31) := ⟨_, rfl⟩
  have HB1 : Hid (Below w.heap.size w w1) := by rw [hw1]; exact (Below.refl _ _).alloc (Nat.le_refl _) _
  have CB : Hid (∀ u, Below w1.heap.size w1 u → Calls Tryz.prog 83 #[.slice x.a x.e.l.length x.c, .func (.func 106) #[] #[.pointer (some ⟨ba, 0, none⟩), .pointer (some ⟨bb, 0, none⟩)]] u fun e w' => e = .returned (.bool (x.e.l.any (fun W => withinK W.k a b))) ∧ Below u.heap.size u w') := fun u hu => by
    have hb2 := HB1.out.trans (hu.mono HB1.out.size)
    exact pacb_any x.a x.e.l.length x.c x.e.l (fun W => withinK W.k a b) ba bb u rfl hx.room hx.few (hx.wr.past hb2) (fun W hW v hv => pbw_any W (hx.wr.oks W hW) a b ha hb ba bb v ((h1.past hb2).past hv) ((h2.past hb2).past hv))
  obtain ⟨c, hc⟩ : ∃ c, c = cmpS x.e.t x.e.n t n := ⟨_, rfl⟩
  have CC : Hid (∀ u, Calls Tryz.prog 49 #[.agg #[.int .i64 x.e.t, .int .u8 x.e.n], .agg #[.int .i64 t, .int .u8 n]] u fun e w' => e = .returned (.int .i64 c) ∧ Below u.heap.size u w') := fun u => by rw [hc]; exact scmp_any x.e.t x.e.n t n u
  obtain ⟨A, hA⟩ : ∃ A, A = x.e.l.any (fun W => withinK W.k a b) := ⟨_, rfl⟩
  obtain ⟨R, hR⟩ : ∃ R, R = blkE a b t n x.e := ⟨_, rfl⟩
  have HR : Hid (R = (!decide (0 < c) && A)) := by show _ = _; rw [hR, hc, hA]; rfl
  rw [← hA] at CB
  rw [← hR]
  have q0 : w1.cell? ⟨bt, 0, none⟩ = some (.int .i64 t) := (HB1.out.cell (p := ⟨bt, 0, none⟩) (cell_lt s0)).trans s0
  have q1 : w1.cell? ⟨bt, 1, none⟩ = some (.int .u8 n) := (HB1.out.cell (p := ⟨bt, 1, none⟩) (cell_lt s0)).trans s1
  show Calls Tryz.prog 105 #[.agg #[.int .i64 x.e.id, .int .i64 x.e.s, .int .u8 x.e.m, .int .i64 x.e.t, .int .u8 x.e.n, .slice x.a x.e.l.length x.c], .pointer (some ⟨bt, 0, none⟩), .pointer (some ⟨ba, 0, none⟩), .pointer (some ⟨bb, 0, none⟩)] w _
  have HW2 : Hid (w.alloc (.cells #[.int .i64 x.e.id, .int .i64 x.e.s, .int .u8 x.e.m, .int .i64 x.e.t, .int .u8 x.e.n, .slice x.a x.e.l.length x.c] 31) = w1) := hw1.symm
  rw [show w1 = w.alloc (.cells #[.int .i64 x.e.id, .int .i64 x.e.s, .int .u8 x.e.m, .int .i64 x.e.t, .int .u8 x.e.n, .slice x.a x.e.l.length x.c] 31) from hw1] at q0 q1
  generalize x.e.l.length = L1 at *
  generalize x.e.id = i1 at *
  generalize x.e.s = z1 at *
  generalize x.e.m = m1 at *
  generalize x.e.t = t1 at *
  generalize x.e.n = n1 at *
  generalize x.a = xa at *
  generalize x.c = xc at *
  clear hw1 hx hc hA hR h1 h2 ha hb
  by_cases hgt : 0 < c
  · have HF : Hid (R = false) := by show _ = _; rw [HR.out, decide_eq_true hgt]; rfl
    go_enter Tryz.func105, Tryz.ntmps105
    go_wp2_with (first | (go_at_call 49; refine (CC.out _).mono ?_; rintro e w2 ⟨rfl, hb2⟩; rw [HW2.out] at hb2; have B2 : Hid (Below w.heap.size w w2) := HB1.out.trans (hb2.mono HB1.out.size); clear hb2))
    go_ret
    exact ⟨by rw [HF.out]; rfl, B2.out⟩
  · have HF : Hid (R = A) := by show _ = _; rw [HR.out, decide_eq_false hgt]; rfl
    go_enter Tryz.func105, Tryz.ntmps105
    go_wp2_with (first | (have hgo := B2.out; clear hgo; go_at_call 83; refine (CB.out _ B2.out).mono ?_; rintro e w3 ⟨rfl, hb3⟩; have B3 : Hid (Below w.heap.size w w3) := HB1.out.trans ((B2.out.trans (hb3.mono B2.out.size)).mono HB1.out.size); clear hb3) | (go_at_call 49; refine (CC.out _).mono ?_; rintro e w2 ⟨rfl, hb2⟩; have z5 := ent5 hb2; rw [HW2.out] at hb2; have B2 : Hid (Below w1.heap.size w1 w2) := hb2; clear hb2))
    go_ret
    exact ⟨by rw [HF.out]; rfl, B3.out⟩
set_option maxHeartbeats 4000000 in
theorem pblk_any {p s tb m : Nat} {P : PSt} {M : List EntM} {XS XT : Foot} (a b : List Int) (ha : Ky a) (hb : Ky b) (t n : Int) (w : World) (h : ParI w p s tb m P M XS XT) :
    Calls Tryz.prog 56 #[.pointer (some ⟨p, 0, none⟩), kv a, kv b, .agg #[.int .i64 t, .int .u8 n]] w fun e w' => e = .returned (.bool (rangeB P.T a b t n)) ∧ Below w.heap.size w w' := by
  obtain ⟨W0, hW0⟩ : ∃ u, u = ((w.alloc (.cells (kcs a) 38)).alloc (.cells (kcs b) 38)).alloc (.cells #[.int .i64 t, .int .u8 n] 28) := ⟨_, rfl⟩
  have HB0 : Hid (ScB w W0 a b t n) := by rw [hW0]; exact ScB.made w ha hb t n 38 28
  have HW0 : Hid (((w.alloc (.cells (kcs a) 38)).alloc (.cells (kcs b) 38)).alloc (.cells #[.int .i64 t, .int .u8 n] 28) = W0) := hW0.symm
  have FBX : Hid (∀ u, Below W0.heap.size W0 u → ScB w u a b t n) := fun u hu => HB0.out.past hu
  obtain ⟨N, hN⟩ : ∃ N, N = M.length := ⟨_, rfl⟩
  have hfew := h.tab.few
  rw [← hN] at hfew
  have q1 : (((w.alloc (.cells (kcs a) 38)).alloc (.cells (kcs b) 38)).alloc (.cells #[.int .i64 t, .int .u8 n] 28)).cell? ⟨p, 1, none⟩ = some (.pointer (some ⟨tb, 0, none⟩)) := by rw [← hW0]; exact (h.past HB0.out.below).c1
  obtain ⟨R, hR⟩ : ∃ R, R = rangeB P.T a b t n := ⟨_, rfl⟩
  have CA : Hid (Calls Tryz.prog 59 #[.pointer (some ⟨tb, 0, none⟩)] W0 fun e w' => (∃ la lc, e = .returned (.slice la N lc) ∧ Hid (Calls Tryz.prog 104 #[.slice la N lc, .func (.func 105) #[] #[.pointer (some ⟨w.heap.size + 2, 0, none⟩), .pointer (some ⟨w.heap.size, 0, none⟩), .pointer (some ⟨w.heap.size + 1, 0, none⟩)]] w' fun e w'' => e = .returned (.bool R) ∧ Below w'.heap.size w' w'')) ∧ Below W0.heap.size W0 w') := by
    refine (pall_any tb M XT W0 (h.past HB0.out.below).tab).mono ?_
    rintro e w' ⟨⟨la, lc, L, rfl, hA⟩, hbl⟩
    obtain ⟨h1, h2, h3⟩ := hA.open
    refine ⟨⟨la, lc, by rw [hN], ?_⟩, hbl⟩
    have e1 : R = L.any (fun x => blkE a b t n x.e) := by
      rw [hR, blk_range, ← h.is, ← hA.is]
      unfold ents
      rw [List.any_map]
      rfl
    rw [e1, hN]
    exact pace_any la M.length lc L (fun x => blkE a b t n x.e) _ _ _ w' h1.symm h2 (by omega) (fun u hu i x hx => by
      obtain ⟨g, e, HG⟩ := h3 i x hx
      exact ⟨g, e, (HG.out u hu).1⟩) (fun x hx u hu => by
      obtain ⟨i, hi, rfl⟩ := List.mem_iff_getElem.1 hx
      obtain ⟨g, e, HG⟩ := h3 i _ (List.getElem?_eq_getElem hi)
      have hs := FBX.out u (hbl.trans (hu.mono hbl.size))
      exact pbe_any _ a b ha hb t n _ _ _ u (HG.out u hu).2 hs.c0 hs.c1 hs.a hs.b)
  rw [← hR]
  clear h hW0 hN hR ha hb
  go_enter Tryz.func56, Tryz.ntmps56
  go_wp2_with (first
    | (have hgo := C1.out; clear hgo; go_at_call 104; refine C1.out.mono ?_; rintro e w3 ⟨rfl, hb3⟩; have B3 : Hid (Below w.heap.size w w3) := HB0.out.below.trans ((B1.out.trans (hb3.mono B1.out.size)).mono HB0.out.below.size); clear hb3)
    | (go_at_call 59; rw [HW0.out]; refine CA.out.mono ?_; rintro e w1 ⟨⟨la, lc, rfl, C1⟩, hb1⟩; have B1 : Hid (Below W0.heap.size W0 w1) := hb1; clear hb1 CA))
  go_ret
  exact ⟨rfl, B3.out⟩
set_option maxHeartbeats 8000000 in
set_option maxRecDepth 4000 in
theorem pscan_any {p s tb m : Nat} {P : PSt} {M : List EntM} {XS XT : Foot} (a b : List Int) (ha : Ky a) (hb : Ky b) (t n now most : Int) (hmo : -9223372036854775808 ≤ most ∧ most ≤ 9223372036854775807) (w : World) (h : ParI w p s tb m P M XS XT) :
    Calls Tryz.prog 16 #[.pointer (some ⟨p, 0, none⟩), kv a, kv b, .agg #[.int .i64 t, .int .u8 n], .int .i64 now, .int .i64 most] w fun e w' => (∃ a' c', e = .returned (.tuple #[.slice a' (scanP P a b t n now most).2.length c', .int .i64 (scanP P a b t n now most).1]) ∧ ItmsAt w' a' (scanP P a b t n now most).2 ∧ (scanP P a b t n now most).2.length ≤ c') ∧ Below w.heap.size w w' := by
  have KA : Hid (Ky a) := ha
  have KB : Hid (Ky b) := hb
  obtain ⟨Z, hZ⟩ : ∃ Z, Z = scanP P a b t n now most := ⟨_, rfl⟩
  rw [← hZ]
  obtain ⟨W0, hW0⟩ : ∃ u, u = ((w.alloc (.cells (kcs a) 38)).alloc (.cells (kcs b) 38)).alloc (.cells #[.int .i64 t, .int .u8 n] 28) := ⟨_, rfl⟩
  have HB0 : Hid (ScB w W0 a b t n) := by rw [hW0]; exact ScB.made w ha hb t n 38 28
  have HW0 : Hid (((w.alloc (.cells (kcs a) 38)).alloc (.cells (kcs b) 38)).alloc (.cells #[.int .i64 t, .int .u8 n] 28) = W0) := hW0.symm
  have FBX : Hid (∀ u, Below W0.heap.size W0 u → ScB w u a b t n) := fun u hu => HB0.out.past hu
  have HQ : Hid (∀ u, Below W0.heap.size W0 u → Below w.heap.size w u ∧ u.cell? ⟨p, 0, none⟩ = some (.pointer (some ⟨s, 0, none⟩))) := fun u hu => by
    have hb2 : Below w.heap.size w u := HB0.out.below.trans (hu.mono HB0.out.below.size)
    exact ⟨hb2, (h.past hb2).c0⟩
  obtain ⟨gt, hgt⟩ : ∃ g, g = decide (okS t) := ⟨_, rfl⟩
  obtain ⟨rb, hrb⟩ : ∃ r, r = rangeB P.T a b t n := ⟨_, rfl⟩
  obtain ⟨G, hG⟩ : ∃ G, G = (scanV P.S a b t n).take most.toNat := ⟨_, rfl⟩
  obtain ⟨NG, hNG⟩ : ∃ NG, NG = G.length := ⟨_, rfl⟩
  have HZ : Hid (Z = if gt = false then (1, []) else if (decide (now < t) || rb) = true then (8, []) else (0, G)) := by
    show _ = _
    rw [hZ, hgt, hrb, hG]
    rfl
  have CGT : Hid (∀ u, Calls Tryz.prog 47 #[.agg #[.int .i64 t, .int .u8 n]] u fun e w' => e = .returned (.bool gt) ∧ Below u.heap.size u w') := fun u => by rw [hgt]; exact sgood_any t n u
  have CB : Hid (∀ u, Below w.heap.size w u → Calls Tryz.prog 56 #[.pointer (some ⟨p, 0, none⟩), kv a, kv b, .agg #[.int .i64 t, .int .u8 n]] u fun e w' => e = .returned (.bool rb) ∧ Below u.heap.size u w') := fun u hu => by rw [hrb]; exact pblk_any a b ha hb t n u (h.past hu)
  have CSC : Hid (∀ u, Below w.heap.size w u → Calls Tryz.prog 57 #[.pointer (some ⟨s, 0, none⟩), kv a, kv b, .agg #[.int .i64 t, .int .u8 n], .int .i64 most] u fun e w' => (∃ a' c', e = .returned (.slice a' NG c') ∧ ItmsAt w' a' G ∧ NG ≤ c') ∧ Below u.heap.size u w') := fun u hu => by rw [hNG, hG]; exact sscan_any s P.S XS a b ha hb t n most hmo u (h.past hu).sto
  have HNG : Hid (G.length = NG) := hNG.symm
  have HZ2 := HZ.out
  clear h hZ hW0 hgt hG hNG ha hb hmo hrb
  cases gt with
  | false =>
    have HF : Hid (Z = (1, [])) := by rw [if_pos rfl] at HZ2; exact HZ2
    clear HZ2
    go_enter Tryz.func16, Tryz.ntmps16
    go_wp2_with (first | (go_at_call 47; refine (CGT.out _).mono ?_; rintro e w1 ⟨rfl, hb⟩; rw [HW0.out] at hb; have H1 : Hid (Below W0.heap.size W0 w1) := hb; clear hb))
    go_ret2
    exact ⟨⟨none, 0, by rw [HF.out]; rfl, by rw [HF.out]; exact ⟨.inl rfl, fun x hx => by simp at hx⟩, by rw [HF.out]; exact Nat.zero_le _⟩, (HQ.out _ H1.out).1⟩
  | true =>
  rw [if_neg (by decide)] at HZ2
  by_cases hlt : now < t
  · have HF : Hid (Z = (8, [])) := by rw [if_pos (by simp [hlt])] at HZ2; exact HZ2
    have bl : decide (now < t) = true := decide_eq_true hlt
    clear HZ2
    go_enter Tryz.func16, Tryz.ntmps16
    go_wp2_with (first | (go_at_call 47; refine (CGT.out _).mono ?_; rintro e w1 ⟨rfl, hb⟩; rw [HW0.out] at hb; have H1 : Hid (Below W0.heap.size W0 w1) := hb; have s0 := (FBX.out w1 hb).c0; have s1 := (FBX.out w1 hb).c1; clear hb))
    go_ret2
    exact ⟨⟨none, 0, by rw [HF.out]; rfl, by rw [HF.out]; exact ⟨.inl rfl, fun x hx => by simp at hx⟩, by rw [HF.out]; exact Nat.zero_le _⟩, (HQ.out _ H1.out).1⟩
  · have bl : decide (now < t) = false := decide_eq_false hlt
    cases rb with
    | true =>
      have HF : Hid (Z = (8, [])) := by rw [if_pos (by simp)] at HZ2; exact HZ2
      clear HZ2 hlt
      go_enter Tryz.func16, Tryz.ntmps16
      go_wp2_with (first | ((with_reducible show wpList _ _ _ (Oper.mk (some 23) _ _ _ _ _ :: _) _ _); refine wpList_load_keyD 23 (by rfl) (by rfl) _ (by rfl) w.heap.size 0 (by rfl) a KA.out (FBX.out _ H1.out).a ?_) | ((with_reducible show wpList _ _ _ (Oper.mk (some 24) _ _ _ _ _ :: _) _ _); refine wpList_load_keyD 24 (by rfl) (by rfl) _ (by rfl) (w.heap.size + 1) 0 (by rfl) b KB.out (FBX.out _ H1.out).b ?_) | (have hgo := H1.out; clear hgo; go_at_call 56; refine (CB.out _ (HQ.out _ H1.out).1).mono ?_; rintro e w2 ⟨rfl, hb⟩; have H2 : Hid (Below W0.heap.size W0 w2) := H1.out.trans (hb.mono H1.out.size); clear hb) | (go_at_call 47; refine (CGT.out _).mono ?_; rintro e w1 ⟨rfl, hb⟩; rw [HW0.out] at hb; have H1 : Hid (Below W0.heap.size W0 w1) := hb; have s0 := (FBX.out w1 hb).c0; have s1 := (FBX.out w1 hb).c1; clear hb))
      go_ret2
      exact ⟨⟨none, 0, by rw [HF.out]; rfl, by rw [HF.out]; exact ⟨.inl rfl, fun x hx => by simp at hx⟩, by rw [HF.out]; exact Nat.zero_le _⟩, (HQ.out _ H2.out).1⟩
    | false =>
      have HF : Hid (Z = (0, G)) := by rw [if_neg (by simp [hlt])] at HZ2; exact HZ2
      clear HZ2 hlt
      go_enter Tryz.func16, Tryz.ntmps16
      go_wp2_with (first | ((with_reducible show wpList _ _ _ (Oper.mk (some 23) _ _ _ _ _ :: _) _ _); refine wpList_load_keyD 23 (by rfl) (by rfl) _ (by rfl) w.heap.size 0 (by rfl) a KA.out (FBX.out _ H1.out).a ?_) | ((with_reducible show wpList _ _ _ (Oper.mk (some 24) _ _ _ _ _ :: _) _ _); refine wpList_load_keyD 24 (by rfl) (by rfl) _ (by rfl) (w.heap.size + 1) 0 (by rfl) b KB.out (FBX.out _ H1.out).b ?_) | (have hgo := H1.out; clear hgo; go_at_call 56; refine (CB.out _ (HQ.out _ H1.out).1).mono ?_; rintro e w2 ⟨rfl, hb⟩; have H2 : Hid (Below W0.heap.size W0 w2) := H1.out.trans (hb.mono H1.out.size); clear hb) | (go_at_call 47; refine (CGT.out _).mono ?_; rintro e w1 ⟨rfl, hb⟩; rw [HW0.out] at hb; have H1 : Hid (Below W0.heap.size W0 w1) := hb; have s0 := (FBX.out w1 hb).c0; have s1 := (FBX.out w1 hb).c1; clear hb))
      have FW : Hid (∀ u, Below w2.heap.size w2 u → Below W0.heap.size W0 u) := fun u hu => H2.out.trans (hu.mono H2.out.size)
      have FA : Hid (∀ u, Below w2.heap.size w2 u → KeyAt u w.heap.size 0 a) := fun u hb => (FBX.out u (FW.out u hb)).a
      have FB : Hid (∀ u, Below w2.heap.size w2 u → KeyAt u (w.heap.size + 1) 0 b) := fun u hb => (FBX.out u (FW.out u hb)).b
      clear s0 s1
      refine wp_region_noPanic ?_
      refine wp_region_held_drew (S := fun u => Below w2.heap.size w2 u) (by kernel_rfl) ?_ (fun hHeld => ?_)
      · exact (Below.refl _ _).drew
      refine wpAnyH_take (i := 0) (v := ?_) rfl (by kernel_rfl) (by kernel_rfl) (by kernel_rfl) (fun _ _ _ h => h) (Or.inl ⟨by rfl, ?_⟩) hHeld ?_
      rotate_left
      · intro u hSu
        (go_simp) <;> (with_reducible rfl)
      change wpAnyH _ _ _ _ _ _ _ (Act.put _ (some 28) _) _
      simp only [Act.put, List.setIfInBounds_toArray, List.set_cons_zero, List.set_cons_succ]
      refine wpAnyH_take (i := 1) (v := ?_) rfl (by kernel_rfl) (by kernel_rfl) (by kernel_rfl) (fun _ _ _ h => h) (Or.inl ⟨by rfl, ?_⟩) hHeld ?_
      rotate_left
      · intro u hSu
        (go_simp) <;> (with_reducible rfl)
      change wpAnyH _ _ _ _ _ _ _ (Act.put _ (some 29) _) _
      simp only [Act.put, List.setIfInBounds_toArray, List.set_cons_zero, List.set_cons_succ]
      refine wpAnyH_take (i := 2) (v := ?_) rfl (by kernel_rfl) (by kernel_rfl) (by kernel_rfl) (fun _ _ _ h => h) (Or.inl ⟨by rfl, ?_⟩) hHeld ?_
      rotate_left
      · intro u hSu
        (go_simp) <;> (with_reducible rfl)
      change wpAnyH _ _ _ _ _ _ _ (Act.put _ (some 30) _) _
      simp only [Act.put, List.setIfInBounds_toArray, List.set_cons_zero, List.set_cons_succ]
      refine wpAnyH_take (i := 3) (v := ?_) rfl (by kernel_rfl) (by kernel_rfl) (by kernel_rfl) (fun _ _ _ h => h) (Or.inl ⟨by rfl, ?_⟩) hHeld ?_
      rotate_left
      · intro u hSu
        obtain ⟨_, r0⟩ := HQ.out u (FW.out u hSu)
        (go_simp) <;> (with_reducible rfl)
      change wpAnyH _ _ _ _ _ _ _ (Act.put _ (some 31) _) _
      simp only [Act.put, List.setIfInBounds_toArray, List.set_cons_zero, List.set_cons_succ]
      refine wpAnyH_take (i := 4) (v := kv a) rfl (by kernel_rfl) (by kernel_rfl) (by kernel_rfl) (fun _ _ _ h => h) (yieldsIf_load_mid (by rfl) _ _ rfl _ _ rfl (a.map (Value.int .u8)) _ (fun u hu => (FA.out u hu).range KA.out) Tryz.underlying38 rfl (info_keyl a KA.out)) hHeld ?_
      change wpAnyH _ _ _ _ _ _ _ (Act.put _ (some 32) _) _
      simp only [Act.put, List.setIfInBounds_toArray, List.set_cons_zero, List.set_cons_succ]
      refine wpAnyH_take (i := 5) (v := kv b) rfl (by kernel_rfl) (by kernel_rfl) (by kernel_rfl) (fun _ _ _ h => h) (yieldsIf_load_mid (by rfl) _ _ rfl _ _ rfl (b.map (Value.int .u8)) _ (fun u hu => (FB.out u hu).range KB.out) Tryz.underlying38 rfl (info_keyl b KB.out)) hHeld ?_
      change wpAnyH _ _ _ _ _ _ _ (Act.put _ (some 33) _) _
      simp only [Act.put, List.setIfInBounds_toArray, List.set_cons_zero, List.set_cons_succ]
      refine wpAnyH_take (i := 6) (v := ?_) rfl (by kernel_rfl) (by kernel_rfl) (by kernel_rfl) (fun _ _ _ h => h) (Or.inl ⟨by rfl, ?_⟩) hHeld ?_
      rotate_left
      · intro u hSu
        obtain ⟨_, _, _, s0, s1⟩ := FBX.out u (FW.out u hSu)
        (go_simp) <;> (with_reducible rfl)
      change wpAnyH _ _ _ _ _ _ _ (Act.put _ (some 34) _) _
      simp only [Act.put, List.setIfInBounds_toArray, List.set_cons_zero, List.set_cons_succ]
      refine wpAnyH_take (i := 7) (v := ?_) rfl (by kernel_rfl) (by kernel_rfl) (by kernel_rfl) (fun _ _ _ h => h) (Or.inl ⟨by rfl, ?_⟩) hHeld ?_
      rotate_left
      · intro u hSu
        (go_simp) <;> (with_reducible rfl)
      change wpAnyH _ _ _ _ _ _ _ (Act.put _ (some 35) _) _
      simp only [Act.put, List.setIfInBounds_toArray, List.set_cons_zero, List.set_cons_succ]
      refine wpAnyH_ready (rs := [8]) (by kernel_rfl) (by simp) ?_
      refine AllReadyH.cons rfl (fun K hK => ?_) AllReadyH.nil
      go_simp
      go_at_call 57
      refine (CSC.out _ (HQ.out _ (FW.out _ hHeld)).1).mono ?_
      rintro e w4 ⟨⟨a4, c4, rfl, hi4, hc4⟩, hb⟩
      have B4 : Hid (Below w2.heap.size w2 w4) := hHeld.trans (hb.mono hHeld.size); have I4 : Hid (ItmsAt w4 a4 G ∧ NG ≤ c4) := ⟨hi4, hc4⟩; clear hb hi4 hc4
      refine hK.out _ _ ?_ (fun hHeld2 => ?_)
      · exact B4.out
      clear hK K hHeld
      have hHeld := hHeld2
      clear hHeld2
      refine wpAnyH_take (i := 9) (v := ?_) rfl (by kernel_rfl) (by kernel_rfl) (by kernel_rfl) (fun _ _ _ h => h) (Or.inl ⟨by rfl, ?_⟩) hHeld ?_
      rotate_left
      · intro u hSu
        (go_simp) <;> (with_reducible rfl)
      change wpAnyH _ _ _ _ _ _ _ (Act.put _ (some 12) _) _
      simp only [Act.put, List.setIfInBounds_toArray, List.set_cons_zero, List.set_cons_succ]
      refine wpAnyH_take (i := 10) (v := ?_) rfl (by kernel_rfl) (by kernel_rfl) (by kernel_rfl) (fun _ _ _ h => h) (Or.inl ⟨by rfl, ?_⟩) hHeld ?_
      rotate_left
      · intro u hSu
        (go_simp) <;> (with_reducible rfl)
      change wpAnyH _ _ _ _ _ _ _ (Act.put _ (some 13) _) _
      simp only [Act.put, List.setIfInBounds_toArray, List.set_cons_zero, List.set_cons_succ]
      refine wpAnyH_done (by kernel_rfl) ?_ _
      refine NoPanic.normal ?_
      go_wp2
      go_ret2
      exact ⟨⟨a4, c4, by rw [HF.out, ← HNG.out]; rfl, by rw [HF.out]; exact I4.out.1, by rw [HF.out]; show G.length ≤ c4; rw [HNG.out]; exact I4.out.2⟩, (HQ.out _ (FW.out _ B4.out)).1⟩
end Go.Proofs.YtileidbdmpeciaaGreat

namespace Go.Proofs.YtileidbdmpeciaaGreat
set_option linter.unusedVariables false
set_option linter.unusedSimpArgs false

/-! ### What is prepared can be committed -/
theorem clash_stamp {S : List Ver} (h : OrdK S) {V : Ver} (hc : clashV S V = true) : ∃ X ∈ S, X.k = V.k ∧ X.t = V.t ∧ X.n = V.n := by
  unfold clashV at hc
  cases e : (chainV S V.k)[putR S V]? with
  | none => rw [e] at hc; cases hc
  | some X =>
    rw [e] at hc
    have h1 : X.t = V.t ∧ X.n = V.n := of_decide_eq_true hc
    obtain ⟨h2, h3⟩ := (chain_mem h).1 (List.mem_of_getElem? e)
    exact ⟨X, h2, h3, h1.1, h1.2⟩
theorem PstK.ready {P : PSt} (h : PstK P) {e : Ent} (he : e ∈ P.T) {t n : Int} (ht : okS t) (hc : ¬ cmpS t n e.t e.n < 0) : applyV P.S t n e.l = (0, putsW t n e.l P.S) := by
  have ho := h.sto.sto.ord
  have hg := h.tab.good e he
  unfold goodE at hg
  simp only [Bool.and_eq_true, decide_eq_true_eq] at hg
  have h1 : ltS e.s e.m e.t e.n := cmp_pos.1 hg.1.2
  have h2 : ltS e.s e.m t n := by
    have : ¬ ltS t n e.t e.n := fun q => hc (cmp_neg.2 q)
    unfold ltS at *
    omega
  have hw : anyWr P.S t n e.l = false := by
    unfold anyWr
    rw [List.any_eq_false]
    intro W hW hcl
    obtain ⟨X, x1, x2, x3, x4⟩ := clash_stamp ho hcl
    have := h.old e he W hW X x1 x2
    rw [x3, x4] at this
    exact this h2
  have hf : anyFu P.S e.l = false := by
    unfold anyFu
    rw [List.any_eq_false]
    intro W hW hcl
    have := of_decide_eq_true hcl
    have := h.room e he W hW
    omega
  have hm : (decide (okS t) && mayW e.l 1) = true := by rw [decide_eq_true ht, hg.2]; rfl
  have hpw := (may_w (n := n) ht hg.2).2.1
  have hk : (keysV P.S).length + newW P.S e.l ≤ 200 := by
    obtain ⟨U, u1, u2, u3⟩ := h.keys
    have hl : (keysV P.S ++ (e.l.filter (fun W => !decide (W.k ∈ keysV P.S))).map (fun W => W.k)).length ≤ U.length := by
      refine len_le_of_sub (List.nodup_append.2 ⟨keys_nodup ho, ?_, fun a ha b hb => ?_⟩) (fun k hk => ?_)
      · unfold List.Nodup
        rw [List.pairwise_map]
        exact hpw.filter _
      · obtain ⟨W, hW, rfl⟩ := List.mem_map.1 hb
        have := (List.mem_filter.1 hW).2
        intro e2
        subst e2
        simp at this
        exact this ha
      · rcases List.mem_append.1 hk with q | q
        · exact u1 k q
        · obtain ⟨W, hW, rfl⟩ := List.mem_map.1 q
          exact u2 _ (List.mem_flatMap.2 ⟨e, he, List.mem_map.2 ⟨W, (List.mem_filter.1 hW).1, rfl⟩⟩)
    rw [List.length_append, List.length_map] at hl
    unfold newW
    omega
  rw [apply_is ho, hm, if_neg (by decide), hw, if_neg (by decide), hf, Bool.false_or, decide_eq_false (by omega), if_neg (by decide)]
theorem has_of {T : List Ent} (h : TabK T) {e : Ent} (he : e ∈ T) : hasT T e.id = some e := by
  unfold hasT
  cases hf : T.find? (fun x => decide (x.id = e.id)) with
  | none => exact absurd (by simp) (List.find?_eq_none.1 hf e he)
  | some x =>
    have hx := List.mem_of_find?_eq_some hf
    have hid : x.id = e.id := of_decide_eq_true (List.find?_some (p := fun x : Ent => decide (x.id = e.id)) hf)
    obtain ⟨i, hi, rfl⟩ := List.mem_iff_getElem.1 hx
    obtain ⟨j, hj, rfl⟩ := List.mem_iff_getElem.1 he
    rcases Nat.lt_trichotomy i j with hij | hij | hij
    · have := List.pairwise_iff_getElem.1 h.up i j hi hj hij; omega
    · subst hij; rfl
    · have := List.pairwise_iff_getElem.1 h.up j i hj hi hij; omega
theorem PstK.one {P : PSt} (h : PstK P) {e : Ent} (he : e ∈ P.T) : stateP P e.id = 1 := by
  unfold stateP
  rw [h.opn e he, has_of h.tab he]
  rfl
theorem PstK.commits {P : PSt} (h : PstK P) {e : Ent} (he : e ∈ P.T) {t n : Int} (ht : okS t) (hc : ¬ cmpS t n e.t e.n < 0) : commitP P e.id t n = (0, ⟨putsW t n e.l P.S, dropT P.T e.id, P.O ++ [(e.id, 2)]⟩) := by
  unfold commitP
  have h1 := h.one he
  rw [decide_eq_true ht, if_neg (by decide), h1, if_neg (by decide), if_neg (by decide), has_of h.tab he]
  simp only
  rw [if_neg hc, h.ready he ht hc]
  simp
/-- What was committed is read at its stamp. -/
theorem PstK.reads {P : PSt} (h : PstK P) {e : Ent} (he : e ∈ P.T) {t n : Int} (ht : okS t) (hc : ¬ cmpS t n e.t e.n < 0) {W : Wrt} (hW : W ∈ e.l) : readP (commitP P e.id t n).2 W.k t n t = (0, if W.g = true then none else some W.v) ∧ (W.g = true → W.v = []) ∧ stateP (commitP P e.id t n).2 e.id = 2 := by
  have hg := h.tab.good e he
  unfold goodE at hg
  simp only [Bool.and_eq_true] at hg
  have hgk := (may_w (n := n) ht hg.2).2.2.1 W hW
  have hap := h.ready he ht hc
  have h0 : (applyV P.S t n e.l).1 = 0 := by rw [hap]
  obtain ⟨e1, e2, e3, e4, e5, _⟩ := apply_ok h0
  obtain ⟨_, hp, _⟩ := may_w (n := n) e4 e5
  have hrun := run_here e.l P.S h.sto.sto.ord e2 e3 hp W hW
  rw [← e1, hap] at hrun
  rw [h.commits he ht hc]
  refine ⟨?_, ?_, ?_⟩
  · unfold readP
    rw [hgk, decide_eq_true ht, if_neg (by decide)]
    have hb : blocksT (dropT P.T e.id) W.k t n = none := by
      unfold blocksT
      cases hh : holdT (dropT P.T e.id) W.k with
      | none => rfl
      | some x =>
        have hx := mem_drop_.1 (List.mem_of_find?_eq_some hh)
        have hk : hasK x W.k = true := List.find?_some (p := fun y : Ent => hasK y W.k) hh
        have q1 := h.tab.holder hx.1 hk
        rw [h.tab.holder he (hasK_of hW)] at q1
        injection q1 with q1
        exact absurd (by rw [q1]) hx.2
    rw [hb, if_neg (by simp)]
    congr 1
    unfold getV
    rw [hrun]
    rfl
  · intro hgn
    unfold mayW at e5
    simp only [Bool.and_eq_true, List.all_eq_true] at e5
    have := (e5.1.2 W hW).2
    rw [hgn] at this
    simpa using this
  · unfold stateP
    rw [over_app, h.opn e he]
    simp
/-! ### What was read stays -/
/-! ### What is over is over -/
theorem over_none {P : PSt} (h : PstK P) {id : Int} (h2 : stateP P id ≠ 2) (h3 : stateP P id ≠ 3) : overP P.O id = none := by
  cases e : overP P.O id with
  | none => rfl
  | some y =>
    unfold stateP at h2 h3
    rw [e] at h2 h3
    unfold overP at e
    cases e2 : P.O.find? (fun z => decide (z.1 = id)) with
    | none => rw [e2] at e; cases e
    | some z =>
      rw [e2] at e
      injection e with e
      have e3 : z.2 = y := e
      have := h.how z (List.mem_of_find?_eq_some e2)
      have h2' : y ≠ 2 := h2
      have h3' : y ≠ 3 := h3
      omega
end Go.Proofs.YtileidbdmpeciaaGreat

