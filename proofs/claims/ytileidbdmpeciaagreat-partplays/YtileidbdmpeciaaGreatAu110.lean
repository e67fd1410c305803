/-
  Who holds a key of a landed table (package prep: holding, anyHeld; slices.IndexFunc, ContainsFunc).
  slices.Insert, Delete at the landed tables' lists of entries.
-/
import Derived.Test.YtileidbdmpeciaaGreatAu109
import Derived.Deep.RegionLaw
import Derived.Lib.AppendZeros
import Derived.Laws.Externs
import Derived.Lib.SliceRun
namespace Go.Proofs.YtileidbdmpeciaaGreat
open Go.RowKit
set_option linter.unusedVariables false

theorem WrtMine.keyat {w : World} {b : Nat} {W : Wrt} (h : WrtMine w b 0 W) : KeyAt w b 0 W.k := h.at_.key h.key
set_option maxHeartbeats 2000000 in
/-- Has a write that key? -/
theorem pclk_any (W : Wrt) (hW : WrtOk W) (k : List Int) (hk : Ky k) (bk : Nat) (w : World) (hat : KeyAt w bk 0 k) :
    Calls Tryz.prog 143 #[wv W, .pointer (some ⟨bk, 0, none⟩)] w fun e w' => e = .returned (.bool (decide (W.k = k))) ∧ Below w.heap.size w w' := by
  obtain ⟨C, hC⟩ : ∃ C, C = encW W := ⟨_, rfl⟩
  obtain ⟨w1, hw1⟩ : ∃ u, u = w.alloc (.cells C.toArray 80) := ⟨_, rfl⟩
  have hmine : WrtMine w1 w.heap.size 0 W := by rw [hw1, hC]; exact WrtMine.made w 80 W hW.key
  have HB1 : Hid (Below w.heap.size w w1) := by rw [hw1]; exact (Below.refl _ _).alloc (Nat.le_refl _) _
  have F1 : Hid (KeyAt w1 w.heap.size 0 W.k) := hmine.keyat
  have F2 : Hid (KeyAt w1 bk 0 k) := hat.past HB1.out
  have K1 : Hid (Ky W.k) := hW.key
  have K2 : Hid (Ky k) := hk
  have heq := fun u => eq_key u W.k k hW.key hk
  have HW1 : Hid (w.alloc (.cells C.toArray 80) = w1) := hw1.symm
  show Calls Tryz.prog 143 #[.agg (encW W).toArray, .pointer (some ⟨bk, 0, none⟩)] w _
  rw [← hC]
  generalize decide (W.k = k) = R at *
  generalize W.k = j at *
  clear hmine hw1 hC hW hk hat
  go_enter Tryz.func143, Tryz.ntmps143
  go_wp2_with (first | ((with_reducible show wpList _ _ _ (Oper.mk (some 5) _ _ _ _ _ :: _) _ _); rw [HW1.out]; refine wpList_load_keyD 5 (by rfl) (by rfl) _ (by rfl) w.heap.size 0 (by rfl) j K1.out F1.out ?_) | ((with_reducible show wpList _ _ _ (Oper.mk (some 6) _ _ _ _ _ :: _) _ _); refine wpList_load_keyD 6 (by rfl) (by rfl) _ (by rfl) bk 0 (by rfl) k K2.out F2.out ?_))
  go_ret
  exact ⟨rfl, HB1.out⟩
/-- What the rounds of IndexFunc hold. -/
structure IdxSk (w u : World) (P : Wrt → Bool) (l : List Wrt) (n : Nat) : Prop where
  below : Below w.heap.size w u
  none : ∀ W ∈ l.take n, P W = false
set_option maxHeartbeats 2000000 in
theorem pindexk_any (a : Option Addr) (N cap : Nat) (l : List Wrt) (P : Wrt → Bool) (bs : Nat) (w : World) (hl : l.length = N) (hc : N ≤ cap) (hN : N ≤ 1000000) (hat : WrtsAt w a l)
    (hcc : ∀ W ∈ l, ∀ u, Below w.heap.size w u → Calls Tryz.prog 143 #[wv W, .pointer (some ⟨bs, 0, none⟩)] u fun e w' => e = .returned (.bool (P W)) ∧ Below u.heap.size u w') :
    Calls Tryz.prog 124 #[.slice a N cap, .func (.func 143) #[] #[.pointer (some ⟨bs, 0, none⟩)]] w fun e w' => (∃ i : Int, e = .returned (.int .i64 i) ∧ -1 ≤ i ∧ i ≤ 1000000 ∧ (0 ≤ i ↔ l.any P = true)) ∧ Below w.heap.size w w' := by
  have HL : Hid (l.length = N) := hl
  have HA : Hid (WrtsAt w a l) := hat
  have HC : Hid (∀ W ∈ l, ∀ u, Below w.heap.size w u → Calls Tryz.prog 143 #[wv W, .pointer (some ⟨bs, 0, none⟩)] u fun e w' => e = .returned (.bool (P W)) ∧ Below u.heap.size u w') := hcc
  clear hl hat hcc
  go_enter Tryz.func124, Tryz.ntmps124
  go_wp2
  go_loopw [8] (fun i wr => ∃ n : Nat, n ≤ N ∧ i = .int .i64 n ∧ Hid (IdxSk w wr P l n)) (fun i _ => N - (intOf i).toNat)
  case atStart => exact ⟨0, Nat.zero_le _, rfl, ⟨Below.refl _ _, fun W hW => by simp at hW⟩⟩
  case round =>
    obtain ⟨n, hn, rfl, HS⟩ := hrel
    have hn0 : (0 : Int) ≤ (n : Int) := by omega
    by_cases hlt : n < N
    · have h1 : (n : Int) < (N : Int) := by omega
      obtain ⟨W, hW⟩ : ∃ W, l[n]? = some W := ⟨_, List.getElem?_eq_getElem (by rw [HL.out]; exact hlt)⟩
      obtain ⟨b, o, rfl, hwa, hwo⟩ := (HA.out.past (w' := wr) HS.out.below).wrt hW
      have HWA : Hid (WrtAt wr b (o + n * 18) W) := hwa
      have HT : Hid (l.take (n + 1) = l.take n ++ [W]) := by show _ = _; rw [List.take_add_one, hW]; rfl
      have HWM : Hid (W ∈ l) := List.mem_of_getElem? hW
      have KW : Hid (Ky W.k) := hwo.key
      have CG0 := HC.out W HWM.out wr HS.out.below
      obtain ⟨pw, hpw⟩ : ∃ x, x = P W := ⟨_, rfl⟩
      have HPW : Hid (pw = P W) := hpw
      rw [← hpw] at CG0
      have CG : Hid (Calls Tryz.prog 143 #[wv W, .pointer (some ⟨bs, 0, none⟩)] wr fun e w' => e = .returned (.bool pw) ∧ Below wr.heap.size wr w') := CG0
      clear hwa hwo hW CG0 hpw
      cases pw with
      | true =>
        go_wp2_with (first | (have hgo := HWA.out; clear hgo; refine wpList_load_wrt 15 (by rfl) (by rfl) _ (by rfl) b (o + n * 18) (by rfl) W KW.out HWA.out ?_) | (go_at_call 143; refine CG.out.mono ?_; rintro e w3 ⟨rfl, hb3⟩; have H3 : Hid (Below w.heap.size w w3) := HS.out.below.trans (hb3.mono HS.out.below.size); clear hb3))
        go_ret
        refine ⟨⟨(n : Int), rfl, by omega, by omega, ?_⟩, H3.out⟩
        exact ⟨fun _ => List.any_eq_true.2 ⟨W, HWM.out, HPW.out.symm⟩, fun _ => hn0⟩
      | false =>
        go_wp2_with (first | (have hgo := HWA.out; clear hgo; refine wpList_load_wrt 15 (by rfl) (by rfl) _ (by rfl) b (o + n * 18) (by rfl) W KW.out HWA.out ?_) | (go_at_call 143; refine CG.out.mono ?_; rintro e w3 ⟨rfl, hb3⟩; have H3 : Hid (IdxSk w w3 P l (n + 1)) := ⟨HS.out.below.trans (hb3.mono HS.out.below.size), fun V hV => by rw [HT.out] at hV; rcases List.mem_append.1 hV with e | e; exact HS.out.none V e; simp at e; rw [e]; exact HPW.out.symm⟩; clear hb3))
        go_roundw
        case rel => exact ⟨n + 1, by omega, by go_num, H3⟩
        case measure => simp [intOf]; omega
    · obtain rfl : n = N := by omega
      have HT : Hid (l.take n = l) := List.take_of_length_le (by rw [HL.out]; exact Nat.le_refl _)
      go_wp2
      go_ret
      refine ⟨⟨-1, rfl, by omega, by omega, fun e => by omega, fun e => ?_⟩, HS.out.below⟩
      obtain ⟨W, hW, e2⟩ := List.any_eq_true.1 e
      rw [HS.out.none W (by rw [HT.out]; exact hW)] at e2
      cases e2
theorem pcontk_any (a : Option Addr) (N cap : Nat) (l : List Wrt) (P : Wrt → Bool) (bs : Nat) (w : World) (hl : l.length = N) (hc : N ≤ cap) (hN : N ≤ 1000000) (hat : WrtsAt w a l)
    (hcc : ∀ W ∈ l, ∀ u, Below w.heap.size w u → Calls Tryz.prog 143 #[wv W, .pointer (some ⟨bs, 0, none⟩)] u fun e w' => e = .returned (.bool (P W)) ∧ Below u.heap.size u w') :
    Calls Tryz.prog 83 #[.slice a N cap, .func (.func 143) #[] #[.pointer (some ⟨bs, 0, none⟩)]] w fun e w' => e = .returned (.bool (l.any P)) ∧ Below w.heap.size w w' := by
  have CI : Hid (Calls Tryz.prog 124 #[.slice a N cap, .func (.func 143) #[] #[.pointer (some ⟨bs, 0, none⟩)]] w fun e w' => (∃ i : Int, e = .returned (.int .i64 i) ∧ -1 ≤ i ∧ i ≤ 1000000 ∧ (0 ≤ i ↔ l.any P = true)) ∧ Below w.heap.size w w') := pindexk_any a N cap l P bs w hl hc hN hat hcc
  obtain ⟨R, hR⟩ : ∃ R, R = l.any P := ⟨_, rfl⟩
  rw [← hR] at CI ⊢
  clear hl hat hcc hR
  go_enter Tryz.func83, Tryz.ntmps83
  go_wp2_with (go_at_call 124; refine CI.out.mono ?_; rintro e w1 ⟨⟨i, rfl, hi1, hi2, hi3⟩, hb1⟩; have HI : Hid (0 ≤ i ↔ R = true) := hi3; have HB : Hid (Below w.heap.size w w1) := hb1; clear hi3 hb1)
  go_ret
  refine ⟨?_, HB.out⟩
  by_cases h : 0 ≤ i
  · rw [HI.out.1 h]; simp [h]
  · have : R = false := by
      cases hR : R with
      | false => rfl
      | true => exact absurd (HI.out.2 hR) h
    rw [this]; simp [h]
set_option maxHeartbeats 2000000 in
/-- Has an entry that key? -/
theorem pcle_any (x : EntM) (k : List Int) (hk : Ky k) (bk : Nat) (w : World) (hat : KeyAt w bk 0 k) (hx : EntW w x) :
    Calls Tryz.prog 142 #[ev x, .pointer (some ⟨bk, 0, none⟩)] w fun e w' => e = .returned (.bool (hasK x.e k)) ∧ Below w.heap.size w w' := by
  obtain ⟨w1, hw1⟩ : ∃ u, u = w.alloc (.cells (encE x).toArray 31) := ⟨_, rfl⟩
  have HB1 : Hid (Below w.heap.size w w1) := by rw [hw1]; exact (Below.refl _ _).alloc (Nat.le_refl _) _
  have hmi : EntMine w1 w.heap.size x := by rw [hw1]; exact EntMine.made w 31 x
  have CC : Hid (Calls Tryz.prog 83 #[.slice x.a x.e.l.length x.c, .func (.func 143) #[] #[.pointer (some ⟨bk, 0, none⟩)]] w1 fun e w' => e = .returned (.bool (hasK x.e k)) ∧ Below w1.heap.size w1 w') :=
    pcontk_any x.a x.e.l.length x.c x.e.l (fun W => decide (W.k = k)) bk w1 rfl hx.room hx.few (hx.wr.past HB1.out) (fun W hW u hb => pclk_any W (hx.wr.oks W hW) k hk bk u ((hat.past HB1.out).past hb))
  obtain ⟨y0, y1, y2, y3, y4, y5⟩ := hmi.at_.cells
  rw [Nat.zero_add] at y1 y2 y3 y4 y5
  have HW1 : Hid (w.alloc (.cells (encE x).toArray 31) = w1) := hw1.symm
  generalize hasK x.e k = R at *
  show Calls Tryz.prog 142 #[.agg #[.int .i64 x.e.id, .int .i64 x.e.s, .int .u8 x.e.m, .int .i64 x.e.t, .int .u8 x.e.n, .slice x.a x.e.l.length x.c], .pointer (some ⟨bk, 0, none⟩)] w _
  have HW2 : Hid (w.alloc (.cells #[.int .i64 x.e.id, .int .i64 x.e.s, .int .u8 x.e.m, .int .i64 x.e.t, .int .u8 x.e.n, .slice x.a x.e.l.length x.c] 31) = w1) := HW1.out
  generalize x.e.l.length = L1 at *
  generalize x.e.id = i1 at *
  generalize x.e.s = s1 at *
  generalize x.e.m = m1 at *
  generalize x.e.t = t1 at *
  generalize x.e.n = n1 at *
  generalize x.a = xa at *
  generalize x.c = xc at *
  clear hmi HW1 hw1 hat hx y0 y1 y2 y3 y4 y5
  go_enter Tryz.func142, Tryz.ntmps142
  go_wp2_with (go_at_call 83; rw [HW2.out]; refine CC.out.mono ?_; rintro e w2 ⟨rfl, hb2⟩; have HB2 : Hid (Below w.heap.size w w2) := HB1.out.trans (hb2.mono HB1.out.size); clear hb2)
  go_ret
  exact ⟨rfl, HB2.out⟩
/-- The place of the first that has a key. -/
def idxM (M : List EntM) (k : List Int) : Nat := (M.takeWhile (fun x => !hasK x.e k)).length
theorem idx_facts (M : List EntM) (k : List Int) : (idxM M k < M.length → ∃ x, M[idxM M k]? = some x ∧ holdM M k = some x) ∧ (idxM M k = M.length → holdM M k = none) ∧ idxM M k ≤ M.length := by
  unfold idxM holdM
  induction M with
  | nil => exact ⟨fun h => by simp at h, fun _ => rfl, by simp⟩
  | cons y r ih =>
    cases h : hasK y.e k with
    | true =>
      rw [List.takeWhile_cons_of_neg (by simp [h]), List.find?_cons_of_pos (by simpa using h)]
      exact ⟨fun _ => ⟨y, rfl, rfl⟩, fun e => by simp at e, by simp⟩
    | false =>
      rw [List.takeWhile_cons_of_pos (by simp [h]), List.find?_cons_of_neg (by simp [h])]
      obtain ⟨i1, i2, i3⟩ := ih
      refine ⟨fun hl => ?_, fun e => i2 (by simpa using e), by simpa using i3⟩
      obtain ⟨x, h1, h2⟩ := i1 (by simpa using hl)
      exact ⟨x, by simpa using h1, h2⟩
theorem idx_is {M : List EntM} {k : List Int} {n : Nat} (hn : n ≤ M.length) (h : ∀ j (x : EntM), j < n → M[j]? = some x → hasK x.e k = false) (hx : n = M.length ∨ ∃ x : EntM, M[n]? = some x ∧ hasK x.e k = true) : idxM M k = n :=
  tw_len hn (fun j x hj hjx => by rw [h j x hj hjx]; rfl) (hx.imp (fun h => h) (fun ⟨x, h1, h2⟩ => ⟨x, h1, by rw [h2]; rfl⟩))
set_option maxHeartbeats 4000000 in
theorem pindexe_any (a : Option Addr) (N cap : Nat) (M : List EntM) (k : List Int) (hk : Ky k) (bk : Nat) (w : World) (hl : M.length = N) (hc : N ≤ cap) (hN : N ≤ 1000000) (hrow : PRow w (.slice a M.length cap) M) (hw : ∀ x ∈ M, EntW w x) (hat : KeyAt w bk 0 k) :
    Calls Tryz.prog 141 #[.slice a N cap, .func (.func 142) #[] #[.pointer (some ⟨bk, 0, none⟩)]] w fun e w' => e = .returned (.int .i64 (if idxM M k < N then (idxM M k : Int) else -1)) ∧ Below w.heap.size w w' := by
  have HL : Hid (M.length = N) := hl
  have HROW : Hid (∀ u, Below w.heap.size w u → PRow u (.slice a M.length cap) M) := fun u hb => own_below hrow hb (Nat.le_refl _)
  have HC : Hid (∀ x ∈ M, ∀ u, Below w.heap.size w u → Calls Tryz.prog 142 #[ev x, .pointer (some ⟨bk, 0, none⟩)] u fun e w' => e = .returned (.bool (hasK x.e k)) ∧ Below u.heap.size u w') := fun x hx u hb => pcle_any x k hk bk u (hat.past hb) ((hw x hx).past hb)
  obtain ⟨R, hR⟩ : ∃ R, R = (if idxM M k < N then (idxM M k : Int) else -1) := ⟨_, rfl⟩
  have HR : Hid (R = if idxM M k < N then (idxM M k : Int) else -1) := hR
  rw [← hR]
  clear hl hat hrow hw hR
  go_enter Tryz.func141, Tryz.ntmps141
  go_wp2
  go_loopw [8] (fun i wr => ∃ n : Nat, n ≤ N ∧ i = .int .i64 n ∧ Hid (Below w.heap.size w wr) ∧ Hid (∀ j (x : EntM), j < n → M[j]? = some x → hasK x.e k = false)) (fun i _ => N - (intOf i).toNat)
  case atStart => exact ⟨0, Nat.zero_le _, rfl, Below.refl _ _, fun j x h => absurd h (Nat.not_lt_zero _)⟩
  case round =>
    obtain ⟨n, hn, rfl, HS, HJ⟩ := hrel
    have hn0 : (0 : Int) ≤ (n : Int) := by omega
    by_cases hlt : n < N
    · have h1 : (n : Int) < (N : Int) := by omega
      obtain ⟨x, hx⟩ : ∃ x, M[n]? = some x := ⟨_, List.getElem?_eq_getElem (by rw [HL.out]; exact hlt)⟩
      obtain ⟨g, hag, _, hea⟩ := (HROW.out wr HS.out).ent hx
      subst hag
      have FE : Hid (EntAt wr g (n * 6) x) := hea
      have HX : Hid (M[n]? = some x) := hx
      have CG0 := HC.out x (List.mem_of_getElem? hx) wr HS.out
      obtain ⟨pw, hpw⟩ : ∃ z, z = hasK x.e k := ⟨_, rfl⟩
      have HPW : Hid (pw = hasK x.e k) := hpw
      rw [← hpw] at CG0
      have CG : Hid (Calls Tryz.prog 142 #[ev x, .pointer (some ⟨bk, 0, none⟩)] wr fun e w' => e = .returned (.bool pw) ∧ Below wr.heap.size wr w') := CG0
      clear hea hx CG0 hpw
      cases pw with
      | true =>
        have HI : Hid (R = (n : Int)) := by
          show R = _
          rw [HR.out, idx_is (by rw [HL.out]; exact hn) HJ.out (.inr ⟨x, HX.out, HPW.out.symm⟩), if_pos hlt]
        go_wp2_with (first | ((with_reducible show wpList _ _ _ (Oper.mk (some 15) _ _ _ _ _ :: _) _ _); refine wpList_load_pent 15 (by rfl) (by rfl) _ (by rfl) g (n * 6) (by rfl) x FE.out ?_) | (go_at_call 142; refine CG.out.mono ?_; rintro e w3 ⟨rfl, hb3⟩; have H3 : Hid (Below w.heap.size w w3) := HS.out.trans (hb3.mono HS.out.size); clear hb3))
        go_ret
        exact ⟨by rw [HI.out]; rfl, H3.out⟩
      | false =>
        have HJ2 : Hid (∀ j (y : EntM), j < n + 1 → M[j]? = some y → hasK y.e k = false) := fun j y hj hy => by
          by_cases e : j < n
          · exact HJ.out j y e hy
          · obtain rfl : j = n := by omega
            rw [HX.out] at hy
            obtain rfl := Option.some.inj hy
            exact HPW.out.symm
        go_wp2_with (first | ((with_reducible show wpList _ _ _ (Oper.mk (some 15) _ _ _ _ _ :: _) _ _); refine wpList_load_pent 15 (by rfl) (by rfl) _ (by rfl) g (n * 6) (by rfl) x FE.out ?_) | (go_at_call 142; refine CG.out.mono ?_; rintro e w3 ⟨rfl, hb3⟩; have H3 : Hid (Below w.heap.size w w3) := HS.out.trans (hb3.mono HS.out.size); clear hb3))
        go_roundw
        case rel => exact ⟨n + 1, by omega, by go_num, H3, HJ2⟩
        case measure => simp [intOf]; omega
    · obtain rfl : n = N := by omega
      have HI : Hid (R = -1) := by
        show R = _
        rw [HR.out, idx_is (by rw [HL.out]; exact hn) HJ.out (.inl HL.out.symm), if_neg (Nat.lt_irrefl _)]
      go_wp2
      go_ret
      exact ⟨by rw [HI.out]; rfl, HS.out⟩
set_option maxHeartbeats 2000000 in
/-- Who holds a key: his place, and whether there is one. -/
theorem pholding_any (p : Nat) (M : List EntM) (X : Foot) (k : List Int) (hk : Ky k) (w : World) (h : PTab w p M X) :
    Calls Tryz.prog 102 #[.pointer (some ⟨p, 0, none⟩), kv k] w fun e w' => (∃ i : Int, e = .returned (.tuple #[.int .i64 i, .bool (holdM M k).isSome]) ∧ ∀ x, holdM M k = some x → ∃ j : Nat, i = j ∧ j < M.length ∧ M[j]? = some x) ∧ Below w.heap.size w w' := by
  obtain ⟨a, c, hc1, hc2, hc3, hcell, _, _⟩ := h.open
  obtain ⟨N, hN⟩ : ∃ N, N = M.length := ⟨_, rfl⟩
  obtain ⟨w1, hw1⟩ : ∃ u, u = w.alloc (.cells (kcs k) 38) := ⟨_, rfl⟩
  have HB1 : Hid (Below w.heap.size w w1) := by rw [hw1]; exact (Below.refl _ _).alloc (Nat.le_refl _) _
  have hat : KeyAt w1 w.heap.size 0 k := by rw [hw1]; exact KeyAt.made w 38 k hk
  have q0 : w1.cell? ⟨p, 0, none⟩ = some (.slice a N c) := by rw [hN]; exact (hcell w1 HB1.out).1
  obtain ⟨R, hR⟩ : ∃ R, R = (if idxM M k < N then (idxM M k : Int) else -1) := ⟨_, rfl⟩
  have CI : Hid (Calls Tryz.prog 141 #[.slice a N c, .func (.func 142) #[] #[.pointer (some ⟨w.heap.size, 0, none⟩)]] w1 fun e w' => e = .returned (.int .i64 R) ∧ Below w1.heap.size w1 w') := by
    rw [hR]
    exact pindexe_any a N c M k hk w.heap.size w1 hN.symm (by omega) (by rw [hN]; exact Nat.le_trans h.few (by decide)) (hcell w1 HB1.out).2 (fun x hx => (h.wrs x hx).past HB1.out) hat
  obtain ⟨f1, f2, f3⟩ := idx_facts M k
  have HF : Hid (decide (0 ≤ R) = (holdM M k).isSome ∧ ∀ x, holdM M k = some x → ∃ j : Nat, R = j ∧ j < M.length ∧ M[j]? = some x) := by
    rw [← hN] at f1 f2 f3 ⊢
    by_cases hl : idxM M k < N
    · obtain ⟨x, h1, h2⟩ := f1 hl
      rw [if_pos hl] at hR
      rw [h2, hR]
      exact ⟨by simp, fun y e => ⟨idxM M k, rfl, hl, by rw [← Option.some.inj e]; exact h1⟩⟩
    · rw [if_neg hl] at hR
      rw [f2 (by omega), hR]
      exact ⟨rfl, fun y e => by cases e⟩
  have HW1 : Hid (w.alloc (.cells (kcs k) 38) = w1) := hw1.symm
  have hr0 : -1 ≤ R := by rw [hR]; split <;> omega
  obtain ⟨ok, hok⟩ : ∃ x, x = (holdM M k).isSome := ⟨_, rfl⟩
  have HOK : Hid (decide (0 ≤ R) = ok) := by show _ = _; rw [hok]; exact HF.out.1
  have HF2 : Hid (∀ x, holdM M k = some x → ∃ j : Nat, R = j ∧ j < M.length ∧ M[j]? = some x) := HF.out.2
  rw [← hok]
  subst hw1
  clear f1 f2 f3 hR hN hcell h hat hok HF HW1
  go_enter Tryz.func102, Tryz.ntmps102
  go_wp2_with (go_at_call 141; refine CI.out.mono ?_; rintro e w2 ⟨rfl, hb2⟩; have HB2 : Hid (Below w.heap.size w w2) := HB1.out.trans (hb2.mono HB1.out.size); clear hb2)
  go_ret2
  exact ⟨⟨R, by rw [← HOK.out]; rfl, HF2.out⟩, HB2.out⟩
set_option maxHeartbeats 2000000 in
theorem pclh_any (p : Nat) (M : List EntM) (X : Foot) (W : Wrt) (hW : WrtOk W) (bs : Nat) (w : World) (h : PTab w p M X) (hs : w.cell? ⟨bs, 0, none⟩ = some (.pointer (some ⟨p, 0, none⟩))) :
    Calls Tryz.prog 128 #[wv W, .pointer (some ⟨bs, 0, none⟩)] w fun e w' => e = .returned (.bool (holdM M W.k).isSome) ∧ Below w.heap.size w w' := by
  obtain ⟨C, hC⟩ : ∃ C, C = encW W := ⟨_, rfl⟩
  obtain ⟨w1, hw1⟩ : ∃ u, u = w.alloc (.cells C.toArray 80) := ⟨_, rfl⟩
  have hmine : WrtMine w1 w.heap.size 0 W := by rw [hw1, hC]; exact WrtMine.made w 80 W hW.key
  have HB1 : Hid (Below w.heap.size w w1) := by rw [hw1]; exact (Below.refl _ _).alloc (Nat.le_refl _) _
  have F1 : Hid (KeyAt w1 w.heap.size 0 W.k) := hmine.keyat
  have K1 : Hid (Ky W.k) := hW.key
  have q0 : w1.cell? ⟨bs, 0, none⟩ = some (.pointer (some ⟨p, 0, none⟩)) := (HB1.out.cell (p := ⟨bs, 0, none⟩) (cell_lt hs)).trans hs
  obtain ⟨ok, hok⟩ : ∃ x, x = (holdM M W.k).isSome := ⟨_, rfl⟩
  have CH : Hid (Calls Tryz.prog 102 #[.pointer (some ⟨p, 0, none⟩), kv W.k] w1 fun e w' => (∃ i : Int, e = .returned (.tuple #[.int .i64 i, .bool ok])) ∧ Below w1.heap.size w1 w') := by
    rw [hok]
    refine (pholding_any p M X W.k hW.key w1 (h.past HB1.out)).mono ?_
    rintro e u ⟨⟨i, e1, _⟩, hb⟩
    exact ⟨⟨i, e1⟩, hb⟩
  have HW1 : Hid (w.alloc (.cells C.toArray 80) = w1) := hw1.symm
  show Calls Tryz.prog 128 #[.agg (encW W).toArray, .pointer (some ⟨bs, 0, none⟩)] w _
  rw [← hC, ← hok]
  generalize W.k = j at *
  subst hw1
  clear hmine hC hW hs h hok HW1
  go_enter Tryz.func128, Tryz.ntmps128
  go_wp2_with (first | ((with_reducible show wpList _ _ _ (Oper.mk (some 9) _ _ _ _ _ :: _) _ _); refine wpList_load_keyD 9 (by rfl) (by rfl) _ (by rfl) w.heap.size 0 (by rfl) j K1.out F1.out ?_) | (go_at_call 102; refine CH.out.mono ?_; rintro e w2 ⟨⟨i, rfl⟩, hb2⟩; have HB2 : Hid (Below w.heap.size w w2) := HB1.out.trans (hb2.mono HB1.out.size); clear hb2))
  go_ret
  exact ⟨rfl, HB2.out⟩
/-- What the rounds of IndexFunc hold. -/
structure IdxSh (w u : World) (P : Wrt → Bool) (l : List Wrt) (n : Nat) : Prop where
  below : Below w.heap.size w u
  none : ∀ W ∈ l.take n, P W = false
set_option maxHeartbeats 2000000 in
theorem pindexh_any (a : Option Addr) (N cap : Nat) (l : List Wrt) (P : Wrt → Bool) (bs : Nat) (w : World) (hl : l.length = N) (hc : N ≤ cap) (hN : N ≤ 1000000) (hat : WrtsAt w a l)
    (hcc : ∀ W ∈ l, ∀ u, Below w.heap.size w u → Calls Tryz.prog 128 #[wv W, .pointer (some ⟨bs, 0, none⟩)] u fun e w' => e = .returned (.bool (P W)) ∧ Below u.heap.size u w') :
    Calls Tryz.prog 124 #[.slice a N cap, .func (.func 128) #[] #[.pointer (some ⟨bs, 0, none⟩)]] w fun e w' => (∃ i : Int, e = .returned (.int .i64 i) ∧ -1 ≤ i ∧ i ≤ 1000000 ∧ (0 ≤ i ↔ l.any P = true)) ∧ Below w.heap.size w w' := by
  have HL : Hid (l.length = N) := hl
  have HA : Hid (WrtsAt w a l) := hat
  have HC : Hid (∀ W ∈ l, ∀ u, Below w.heap.size w u → Calls Tryz.prog 128 #[wv W, .pointer (some ⟨bs, 0, none⟩)] u fun e w' => e = .returned (.bool (P W)) ∧ Below u.heap.size u w') := hcc
  clear hl hat hcc
  go_enter Tryz.func124, Tryz.ntmps124
  go_wp2
  go_loopw [8] (fun i wr => ∃ n : Nat, n ≤ N ∧ i = .int .i64 n ∧ Hid (IdxSh w wr P l n)) (fun i _ => N - (intOf i).toNat)
  case atStart => exact ⟨0, Nat.zero_le _, rfl, ⟨Below.refl _ _, fun W hW => by simp at hW⟩⟩
  case round =>
    obtain ⟨n, hn, rfl, HS⟩ := hrel
    have hn0 : (0 : Int) ≤ (n : Int) := by omega
    by_cases hlt : n < N
    · have h1 : (n : Int) < (N : Int) := by omega
      obtain ⟨W, hW⟩ : ∃ W, l[n]? = some W := ⟨_, List.getElem?_eq_getElem (by rw [HL.out]; exact hlt)⟩
      obtain ⟨b, o, rfl, hwa, hwo⟩ := (HA.out.past (w' := wr) HS.out.below).wrt hW
      have HWA : Hid (WrtAt wr b (o + n * 18) W) := hwa
      have HT : Hid (l.take (n + 1) = l.take n ++ [W]) := by show _ = _; rw [List.take_add_one, hW]; rfl
      have HWM : Hid (W ∈ l) := List.mem_of_getElem? hW
      have KW : Hid (Ky W.k) := hwo.key
      have CG0 := HC.out W HWM.out wr HS.out.below
      obtain ⟨pw, hpw⟩ : ∃ x, x = P W := ⟨_, rfl⟩
      have HPW : Hid (pw = P W) := hpw
      rw [← hpw] at CG0
      have CG : Hid (Calls Tryz.prog 128 #[wv W, .pointer (some ⟨bs, 0, none⟩)] wr fun e w' => e = .returned (.bool pw) ∧ Below wr.heap.size wr w') := CG0
      clear hwa hwo hW CG0 hpw
      cases pw with
      | true =>
        go_wp2_with (first | (have hgo := HWA.out; clear hgo; refine wpList_load_wrt 15 (by rfl) (by rfl) _ (by rfl) b (o + n * 18) (by rfl) W KW.out HWA.out ?_) | (go_at_call 128; refine CG.out.mono ?_; rintro e w3 ⟨rfl, hb3⟩; have H3 : Hid (Below w.heap.size w w3) := HS.out.below.trans (hb3.mono HS.out.below.size); clear hb3))
        go_ret
        refine ⟨⟨(n : Int), rfl, by omega, by omega, ?_⟩, H3.out⟩
        exact ⟨fun _ => List.any_eq_true.2 ⟨W, HWM.out, HPW.out.symm⟩, fun _ => hn0⟩
      | false =>
        go_wp2_with (first | (have hgo := HWA.out; clear hgo; refine wpList_load_wrt 15 (by rfl) (by rfl) _ (by rfl) b (o + n * 18) (by rfl) W KW.out HWA.out ?_) | (go_at_call 128; refine CG.out.mono ?_; rintro e w3 ⟨rfl, hb3⟩; have H3 : Hid (IdxSh w w3 P l (n + 1)) := ⟨HS.out.below.trans (hb3.mono HS.out.below.size), fun V hV => by rw [HT.out] at hV; rcases List.mem_append.1 hV with e | e; exact HS.out.none V e; simp at e; rw [e]; exact HPW.out.symm⟩; clear hb3))
        go_roundw
        case rel => exact ⟨n + 1, by omega, by go_num, H3⟩
        case measure => simp [intOf]; omega
    · obtain rfl : n = N := by omega
      have HT : Hid (l.take n = l) := List.take_of_length_le (by rw [HL.out]; exact Nat.le_refl _)
      go_wp2
      go_ret
      refine ⟨⟨-1, rfl, by omega, by omega, fun e => by omega, fun e => ?_⟩, HS.out.below⟩
      obtain ⟨W, hW, e2⟩ := List.any_eq_true.1 e
      rw [HS.out.none W (by rw [HT.out]; exact hW)] at e2
      cases e2
theorem pconth_any (a : Option Addr) (N cap : Nat) (l : List Wrt) (P : Wrt → Bool) (bs : Nat) (w : World) (hl : l.length = N) (hc : N ≤ cap) (hN : N ≤ 1000000) (hat : WrtsAt w a l)
    (hcc : ∀ W ∈ l, ∀ u, Below w.heap.size w u → Calls Tryz.prog 128 #[wv W, .pointer (some ⟨bs, 0, none⟩)] u fun e w' => e = .returned (.bool (P W)) ∧ Below u.heap.size u w') :
    Calls Tryz.prog 83 #[.slice a N cap, .func (.func 128) #[] #[.pointer (some ⟨bs, 0, none⟩)]] w fun e w' => e = .returned (.bool (l.any P)) ∧ Below w.heap.size w w' := by
  have CI : Hid (Calls Tryz.prog 124 #[.slice a N cap, .func (.func 128) #[] #[.pointer (some ⟨bs, 0, none⟩)]] w fun e w' => (∃ i : Int, e = .returned (.int .i64 i) ∧ -1 ≤ i ∧ i ≤ 1000000 ∧ (0 ≤ i ↔ l.any P = true)) ∧ Below w.heap.size w w') := pindexh_any a N cap l P bs w hl hc hN hat hcc
  obtain ⟨R, hR⟩ : ∃ R, R = l.any P := ⟨_, rfl⟩
  rw [← hR] at CI ⊢
  clear hl hat hcc hR
  go_enter Tryz.func83, Tryz.ntmps83
  go_wp2_with (go_at_call 124; refine CI.out.mono ?_; rintro e w1 ⟨⟨i, rfl, hi1, hi2, hi3⟩, hb1⟩; have HI : Hid (0 ≤ i ↔ R = true) := hi3; have HB : Hid (Below w.heap.size w w1) := hb1; clear hi3 hb1)
  go_ret
  refine ⟨?_, HB.out⟩
  by_cases h : 0 ≤ i
  · rw [HI.out.1 h]; simp [h]
  · have : R = false := by
      cases hR : R with
      | false => rfl
      | true => exact absurd (HI.out.2 hR) h
    rw [this]; simp [h]
theorem box_cellP (w : World) (v : Value) (T : TypeId) : (w.alloc (.cells #[v] T)).cell? ⟨w.heap.size, 0, none⟩ = some v := by rw [World.cell?_alloc_new]; rfl
theorem held_any {M : List EntM} {l : List Wrt} : heldT (ents M) l = l.any (fun W => (holdM M W.k).isSome) := by
  unfold heldT
  congr 1
  funext W
  rw [← holdM_e, Option.isSome_map]
theorem panyheld_any (p : Nat) (M : List EntM) (X : Foot) (a : Option Addr) (N cap : Nat) (l : List Wrt) (w : World) (h : PTab w p M X) (hl : l.length = N) (hc : N ≤ cap) (hN : N ≤ 1000000) (hat : WrtsAt w a l) :
    Calls Tryz.prog 90 #[.pointer (some ⟨p, 0, none⟩), .slice a N cap] w fun e w' => e = .returned (.bool (heldT (ents M) l)) ∧ Below w.heap.size w w' := by
  have HB : Hid (Below w.heap.size w (w.alloc (.cells #[.pointer (some ⟨p, 0, none⟩)] 85))) := (Below.refl _ _).alloc (Nat.le_refl _) _
  have k0 := box_cellP w (.pointer (some ⟨p, 0, none⟩)) 85
  have CC : Hid (Calls Tryz.prog 83 #[.slice a N cap, .func (.func 128) #[] #[.pointer (some ⟨w.heap.size, 0, none⟩)]] (w.alloc (.cells #[.pointer (some ⟨p, 0, none⟩)] 85)) fun e w' => e = .returned (.bool (heldT (ents M) l)) ∧ Below (w.alloc (.cells #[.pointer (some ⟨p, 0, none⟩)] 85)).heap.size (w.alloc (.cells #[.pointer (some ⟨p, 0, none⟩)] 85)) w') := by
    rw [held_any]
    refine pconth_any a N cap l (fun W => (holdM M W.k).isSome) w.heap.size _ hl hc hN (hat.past HB.out) (fun W hW u hb => ?_)
    exact pclh_any p M X W (hat.oks W hW) _ u ((h.past HB.out).past hb) ((hb.cell (p := ⟨w.heap.size, 0, none⟩) (by simp)).trans k0)
  generalize heldT (ents M) l = R at *
  clear h hat hl k0
  go_enter Tryz.func90, Tryz.ntmps90
  go_wp2_with (go_at_call 83; refine CC.out.mono ?_; rintro e w2 ⟨rfl, hb2⟩; have HB2 : Hid (Below w.heap.size w w2) := HB.out.trans (hb2.mono HB.out.size); clear hb2)
  go_ret
  exact ⟨rfl, HB2.out⟩
end Go.Proofs.YtileidbdmpeciaaGreat

namespace Go.Proofs.YtileidbdmpeciaaGreat
open Go.RowKit
set_option linter.unusedVariables false

/-- copy whose run is known, as one step of a walk. -/
theorem wpList_copyP (w : World) {ops : Array Oper} {rest : List Oper} {o : Oper} {a : Act} {Q : Exit → Act → World → Prop} (hgd : o.guard = none) (d s : Operand) (t t' : TypeId)
    (ho : o.op = .call { callee := .builtin .copy, args := #[d, s], argTypes := #[t, t'] }) (v u : Value) (hd : a.eval d = v) (hs : a.eval s = u) {v' : Value} {w' : World}
    (hr : (Builtin.copy_ #[t, t'] o.type #[v, u]).run Tryz.prog w = .ok v' w') (h : wpList Tryz.prog ops Q rest (a.put o.dst v') w') : wpList Tryz.prog ops Q (o :: rest) a w := by
  refine wpList_plain hgd fun K hK => ?_
  unfold Oper.wp
  simp [execOp, ho, resolve, invoke, builtin, hd, hs, hr, Result.andThen]
  exact hK _ _ h
theorem step_copyP {ops : Array Oper} {o : Oper} {a : Act} {w : World} {K : Act → World → Prop} {Q : Exit → Act → World → Prop} {E : Prop} (hgd : o.guard = none) (d s : Operand) (t t' : TypeId)
    (ho : o.op = .call { callee := .builtin .copy, args := #[d, s], argTypes := #[t, t'] }) (v u : Value) (hd : a.eval d = v) (hs : a.eval s = u) {v' : Value} {w' : World}
    (hr : (Builtin.copy_ #[t, t'] o.type #[v, u]).run Tryz.prog w = .ok v' w') (h : K (a.put o.dst v') w') : if Region.wanted o (yielded ops a.tmps) = true then Oper.wp Tryz.prog o a w K Q else E := by
  have hw : Region.wanted o (yielded ops a.tmps) = true := by simp [Region.wanted, hgd]
  rw [if_pos hw]
  unfold Oper.wp
  simp [execOp, ho, resolve, invoke, builtin, hd, hs, hr, Result.andThen]
  exact h
theorem step_appendP {ops : Array Oper} {o : Oper} {a : Act} {w : World} {K : Act → World → Prop} {Q : Exit → Act → World → Prop} {E : Prop} (hgd : o.guard = none) (d s : Operand) (t t' : TypeId)
    (ho : o.op = .call { callee := .builtin .append, args := #[d, s], argTypes := #[t, t'] }) (v u : Value) (hd : a.eval d = v) (hs : a.eval s = u) {v' : Value} {w' : World}
    (hr : (Builtin.append_ #[t, t'] o.type #[v, u]).run Tryz.prog w = .ok v' w') (h : K (a.put o.dst v') w') : if Region.wanted o (yielded ops a.tmps) = true then Oper.wp Tryz.prog o a w K Q else E := by
  have hw : Region.wanted o (yielded ops a.tmps) = true := by simp [Region.wanted, hgd]
  rw [if_pos hw]
  unfold Oper.wp
  simp [execOp, ho, resolve, invoke, builtin, hd, hs, hr, Result.andThen]
  exact h
theorem wpList_clearP (w : World) {ops : Array Oper} {rest : List Oper} {o : Oper} {a : Act} {Q : Exit → Act → World → Prop} (hgd : o.guard = none) (s : Operand) (t : TypeId)
    (ho : o.op = .call { callee := .builtin .clear, args := #[s], argTypes := #[t] }) (u : Value) (hs : a.eval s = u) {v' : Value} {w' : World}
    (hr : (Builtin.clear_ #[t] o.type #[u]).run Tryz.prog w = .ok v' w') (h : wpList Tryz.prog ops Q rest (a.put o.dst v') w') : wpList Tryz.prog ops Q (o :: rest) a w := by
  refine wpList_plain hgd fun K hK => ?_
  unfold Oper.wp
  simp [execOp, ho, resolve, invoke, builtin, hs, hr, Result.andThen]
  exact hK _ _ h
theorem row_cellP {w : World} {g : Nat} {cur : Array Value} {e : TypeId} (hg : w.heap[g]? = some (.cells cur e (0, 0))) (j : Nat) : w.cell? ⟨g, j, none⟩ = cur[j]? := by simp [World.cell?, hg]
/-- What an insertion leaves. -/
structure InsP (w w' : World) (a a' : Option Addr) (N c c' : Nat) (M : List EntM) : Prop where
  row : w'.ownsRow 0 31 6 (.slice a' (N + 1) c') (N + 1) (M.flatMap encE)
  grown : w.grownBy w' (Value.slice a N c).ownBlock
  blk : ∀ k, (Value.slice a' (N + 1) c').ownBlock = some k → (Value.slice a N c).ownBlock = some k ∨ w.heap.size ≤ k
theorem ins_flatP (L : List EntM) (V : EntM) (i : Nat) : (L.flatMap encE).take (i * 6) ++ encE V ++ (L.flatMap encE).drop (i * 6) = (L.take i ++ V :: L.drop i).flatMap encE := by
  rw [encEs_take, encEs_drop, List.flatMap_append, List.flatMap_cons, List.append_assoc]
set_option maxHeartbeats 4000000 in
set_option maxRecDepth 4000 in
theorem pins_end (a : Option Addr) (c N vb : Nat) (L : List EntM) (V : EntM) (w : World) (hN : L.length = N) (hfew : N ≤ 1000) (hrow : w.ownsRow 0 31 6 (.slice a N c) N (L.flatMap encE)) (hv : w.heap[vb]? = some (.cells (encE V).toArray 31 (0, 0))) :
    Calls Tryz.prog 91 #[.slice a N c, .int .i64 N, .slice (some ⟨vb, 0, none⟩) 1 1] w fun e w' => ∃ a' c', e = .returned (.slice a' (N + 1) c') ∧ InsP w w' a a' N c c' (L.take N ++ V :: L.drop N) := by
  obtain ⟨i0, z, hi, hz0, hz1, hz2, hz3⟩ := pentEl.info
  have hnews : ∀ j u, (encE V)[j]? = some u → w.cell? ((⟨vb, 0, none⟩ : Addr).add j) = some u := fun j u hj => by
    rw [addr_add, row_cellP hv, Nat.zero_add]; simpa using hj
  obtain ⟨v', w', hrun, h1, h2, _, h4⟩ := run_append_own_at (P := Tryz.prog) w 0 107 107 31 i0 z 6 64 pentEl.ht hi hz0 hz1 hz2 hz3 (by decide) _ N _ hrow ⟨vb, 0, none⟩ 1 1 (encE V) rfl hnews (encE_one V) (by unfold maxLen; omega) (by omega) (Nat.zero_le _)
  obtain ⟨a', c', rfl⟩ := own_form h1
  have HF : Hid (InsP w w' a a' N c c' (L.take N ++ V :: L.drop N)) := by
    refine ⟨?_, h2, fun k hk => ?_⟩
    · have e := ins_flatP L V N
      rw [List.take_of_length_le (by rw [encEs_len, hN]; exact Nat.le_refl _), List.drop_eq_nil_of_le (by rw [encEs_len, hN]; exact Nat.le_refl _), List.append_nil] at e
      rw [← e]
      exact h1
    · rcases h4 with h | h
      · rw [h] at hk; exact .inl hk
      · rw [h] at hk; injection hk with hk; exact .inr (by omega)
  have hcap : N ≤ c := by
    rcases hrow.2 with ⟨e1, e2⟩ | ⟨g, cap, cur, e1, _, _, e5, _⟩
    · omega
    · cases e1; exact e5
  clear h1 h2 h4 hnews hv hrow
  by_cases hcN : c = N
  · subst hcN
    go_enter Tryz.func91, Tryz.ntmps91
    go_wp2_with (at_builtin; refine Lib.wpList_append_run _ rfl _ _ _ _ rfl _ _ rfl rfl _ _ hrun ?_)
    go_ret
    exact ⟨a', c', rfl, HF.out⟩
  · go_enter Tryz.func91, Tryz.ntmps91
    go_wp2_with (at_builtin; refine Lib.wpList_append_run _ rfl _ _ _ _ rfl _ _ rfl rfl _ _ hrun ?_)
    go_ret
    exact ⟨a', c', rfl, HF.out⟩
/-- A block of one entry is apart from a list in another block. -/
theorem run_overlaps_noP (w : World) (g o lb cb vb : Nat) (V : EntM) (cur : Array Value) (hne : vb ≠ g) (hv : w.heap[vb]? = some (.cells (encE V).toArray 31 (0, 0))) (hg : w.heap[g]? = some (.cells cur 31 (0, 0))) (hc : cur.size ≠ 0) :
    (callFunc 129 #[.slice (some ⟨vb, 0, none⟩) 1 1, .slice (some ⟨g, o, none⟩) lb cb]).run Tryz.prog w = .ok (.value (.bool false)) w := by
  rw [run_callFunc_extern Tryz.func129 (by kernel_rfl) (by kernel_rfl) (by kernel_rfl) (e := Extern.SlicesOverlaps.overlaps #[107, 107] #[4]) (by kernel_rfl),
    Lib.run_overlaps_apart w 107 4 31 Tryz.underlying107 6 Tryz.sizeOf31 ⟨vb, 0, none⟩ ⟨g, o, none⟩ 1 1 lb cb hne 31 31 6 cur.size (by unfold World.shape?; rw [hv]; rfl) (by unfold World.shape?; rw [hg]) hc (by simp [World.frozen?, hv]) (by simp [World.frozen?, hv])]
  rfl
set_option maxHeartbeats 4000000 in
set_option maxRecDepth 4000 in
theorem pins_room (g c N i vb : Nat) (L : List EntM) (V : EntM) (w : World) (hN : L.length = N) (hi : i < N) (hc : N + 1 ≤ c) (hfew : N ≤ 1000) (hrow : w.ownsRow 0 31 6 (.slice (some ⟨g, 0, none⟩) N c) N (L.flatMap encE)) (hv : w.heap[vb]? = some (.cells (encE V).toArray 31 (0, 0))) (hne : vb ≠ g) :
    Calls Tryz.prog 91 #[.slice (some ⟨g, 0, none⟩) N c, .int .i64 i, .slice (some ⟨vb, 0, none⟩) 1 1] w fun e w' => ∃ a' c', e = .returned (.slice a' (N + 1) c') ∧ InsP w w' (some ⟨g, 0, none⟩) a' N c c' (L.take i ++ V :: L.drop i) := by
  obtain ⟨cur, hg, hcm, hcs, hcur⟩ : ∃ cur, w.heap[g]? = some (.cells cur 31 (0, 0)) ∧ c ≤ maxLen ∧ cur.size = c * 6 ∧ cur.toList.take (N * 6) = L.flatMap encE := by
    rcases hrow.2 with ⟨e1, e2⟩ | ⟨g', cap, cur, e1, _, hh, e5, e6, e7, e8⟩
    · omega
    · cases e1; exact ⟨cur, hh, e6, e7, e8⟩
  obtain ⟨D, hD⟩ : ∃ D, D = (L.flatMap encE).drop (i * 6) := ⟨_, rfl⟩
  have hDl : D.length = (N - i) * 6 := by rw [hD, List.length_drop, encEs_len, hN]; omega
  have h1D : ∀ u ∈ D, u.oneCell' = true := fun u hu => encEs_one L u (by rw [hD] at hu; exact List.mem_of_mem_drop hu)
  have hlist : ∀ j u, (L.flatMap encE)[j]? = some u → w.cell? ⟨g, j, none⟩ = some u := fun j u hj => by
    rw [row_cellP hg, ← Array.getElem?_toList]
    rw [← hcur] at hj
    rw [List.getElem?_take] at hj
    split at hj
    · exact hj
    · cases hj
  obtain ⟨W1, hW1⟩ : ∃ W1, W1 = w.drew.setRow g (cur.toList.take ((i + 1) * 6) ++ D ++ cur.toList.drop ((i + 1) * 6 + D.length)).toArray := ⟨_, rfl⟩
  have hcp1 : (Builtin.copy_ #[107, 107] 3 #[.slice (some ⟨g, (i + 1) * 6, none⟩) (N + 1 - (i + 1)) (c - (i + 1)), .slice (some ⟨g, i * 6, none⟩) (N + 1 - i) (c - i)]).run Tryz.prog w.drew = .ok (goInt ((N - i : Nat) : Int)) W1 := by
    rw [hW1]
    exact run_copy_els pentEl w.drew 3 g ((i + 1) * 6) (N + 1 - (i + 1)) (c - (i + 1)) ⟨g, i * 6, none⟩ (N + 1 - i) (c - i) (N - i) cur D hg (by simp only [Nat.min_def]; split <;> omega) hDl (fun j u hj => by
      rw [addr_add]
      exact hlist _ u (by rw [hD, List.getElem?_drop] at hj; exact hj)) (by rw [hDl, hcs]; omega) h1D
  have hg1 : W1.heap[g]? = some (.cells (cur.toList.take ((i + 1) * 6) ++ D ++ cur.toList.drop ((i + 1) * 6 + D.length)).toArray 31 (0, 0)) := by
    rw [hW1]; exact setRow_heap w.drew g cur _ 31 _ hg
  have hv1 : W1.heap[vb]? = some (.cells (encE V).toArray 31 (0, 0)) := by
    rw [hW1]; exact (setRow_other w.drew g vb _ hne).trans hv
  obtain ⟨c1, hc1⟩ : ∃ c1, c1 = cur.toList.take ((i + 1) * 6) ++ D ++ cur.toList.drop ((i + 1) * 6 + D.length) := ⟨_, rfl⟩
  rw [← hc1] at hg1
  obtain ⟨c2, hc2⟩ : ∃ c2, c2 = c1.take (i * 6) ++ encE V ++ c1.drop (i * 6 + (encE V).length) := ⟨_, rfl⟩
  obtain ⟨W2, hW2⟩ : ∃ W2, W2 = W1.setRow g c2.toArray := ⟨_, rfl⟩
  have hlen1 : c1.length = cur.size := by
    rw [hc1]
    simp only [List.length_append, List.length_take, List.length_drop, hDl, Array.length_toList, hcs]
    omega
  have hcp2 : (Builtin.copy_ #[107, 107] 3 #[.slice (some ⟨g, i * 6, none⟩) (N + 1 - i) (c - i), .slice (some ⟨vb, 0, none⟩) 1 1]).run Tryz.prog W1 = .ok (goInt 1) W2 := by
    have := run_copy_els pentEl W1 3 g (i * 6) (N + 1 - i) (c - i) ⟨vb, 0, none⟩ 1 1 1 c1.toArray (encE V) hg1 (by simp only [Nat.min_def]; split <;> omega) rfl (fun j u hj => by
      rw [addr_add, Nat.zero_add, row_cellP hv1]
      simpa using hj) (by rw [encE_len, List.size_toArray, hlen1, hcs]; omega) (encE_one V)
    rw [this, hW2, hc2]
    rfl
  have HF : Hid (InsP w W2 (some ⟨g, 0, none⟩) (some ⟨g, 0, none⟩) N c c (L.take i ++ V :: L.drop i)) := by
    obtain ⟨k1, k2⟩ := ins_room cur.toList (encE V) (L.flatMap encE) (i * 6) (N * 6) 6 hcur (by rw [encEs_len, hN]) (by omega) rfl (by rw [Array.length_toList, hcs]; omega) c1 c2 (by rw [hc1, hD, show (i + 1) * 6 = i * 6 + 6 by omega]) hc2
    rw [ins_flatP] at k1
    refine ⟨⟨?_, .inr ⟨g, c, c2.toArray, rfl, Nat.zero_le _, by rw [hW2]; exact setRow_heap W1 g _ _ 31 _ hg1, hc, hcm, by rw [List.size_toArray, k2, Array.length_toList]; exact hcs, by rw [show (N + 1) * 6 = N * 6 + 6 by omega]; exact k1⟩⟩, ?_, fun k hk => .inl hk⟩
    · rw [encEs_len]
      simp only [List.length_append, List.length_cons, List.length_take, List.length_drop, hN]
      omega
    · rw [hW2, hW1]
      exact ⟨rfl, rfl, rfl, by simp, fun k _ hk => (setRow_other _ g k _ (fun e => hk (by simp [Value.ownBlock, e]))).trans (setRow_other w.drew g k _ (fun e => hk (by simp [Value.ownBlock, e])))⟩
  have hov : ∀ o lb cb, (callFunc 129 #[.slice (some ⟨vb, 0, none⟩) 1 1, .slice (some ⟨g, o, none⟩) lb cb]).run Tryz.prog w = .ok (.value (.bool false)) w := fun o lb cb => run_overlaps_noP w g o lb cb vb V cur hne hv hg (by rw [hcs]; omega)
  have hin : i ≤ N := by omega
  have hz2 : ¬ ((i : Int) = (N : Int)) := by omega
  have hb2 : ¬ (c = i + 1) := by omega
  have hb4 : ¬ (c = i) := by omega
  have hc63 : c ≤ 9223372036854775807 := by unfold maxLen at hcm; omega
  have hw1 : IntKind.i64.wrap ((i : Int) + 1) = (i : Int) + 1 := by rw [IntKind.wrap_i64]; omega
  have hb1 : (0 : Int) ≤ (i : Int) + 1 := by omega
  have htn : ((i : Int) + 1).toNat = i + 1 := by omega
  have hb3 : (i : Int) ≤ (N : Int) + 1 := by omega
  clear hlist hc1 hc2 hW1 hW2 hlen1 hD hcur hrow hv1 hg1 hv hg hDl h1D hcs
  go_enter Tryz.func91, Tryz.ntmps91
  go_wp2_with (simp only [hov])
  go_region_law (refine step_copyP rfl _ _ 107 107 rfl _ _ (by simp [Act.eval, Act.put]) (by simp [Act.eval, Act.put]) hcp1 ?_)
  go_wp2_with (at_builtin; refine wpList_copyP _ rfl _ _ 107 107 rfl _ _ rfl rfl hcp2 ?_)
  go_ret
  exact ⟨_, _, rfl, HF.out⟩
set_option maxHeartbeats 4000000 in
set_option maxRecDepth 4000 in
theorem pins_grow (g N i vb : Nat) (L : List EntM) (V : EntM) (w : World) (hN : L.length = N) (hi : i < N) (hfew : N ≤ 1000) (hrow : w.ownsRow 0 31 6 (.slice (some ⟨g, 0, none⟩) N N) N (L.flatMap encE)) (hv : w.heap[vb]? = some (.cells (encE V).toArray 31 (0, 0))) :
    Calls Tryz.prog 91 #[.slice (some ⟨g, 0, none⟩) N N, .int .i64 i, .slice (some ⟨vb, 0, none⟩) 1 1] w fun e w' => ∃ a' c', e = .returned (.slice a' (N + 1) c') ∧ InsP w w' (some ⟨g, 0, none⟩) a' N N c' (L.take i ++ V :: L.drop i) := by
  obtain ⟨cur, hg, hcs, hcur⟩ : ∃ cur, w.heap[g]? = some (.cells cur 31 (0, 0)) ∧ cur.size = N * 6 ∧ cur.toList.take (N * 6) = L.flatMap encE := by
    rcases hrow.2 with ⟨e1, e2⟩ | ⟨g', cap, cur, e1, _, hh, e5, e6, e7, e8⟩
    · omega
    · cases e1; exact ⟨cur, hh, e7, e8⟩
  obtain ⟨x, hx⟩ : ∃ x, x = L.flatMap encE := ⟨_, rfl⟩
  have hxl : x.length = N * 6 := by rw [hx, encEs_len, hN]
  have h1x : ∀ u ∈ x, u.oneCell' = true := fun u hu => encEs_one L u (by rw [hx] at hu; exact hu)
  have hgl : g < w.heap.size := (Array.getElem?_eq_some_iff.1 hg).1
  have hvl : vb < w.heap.size := (Array.getElem?_eq_some_iff.1 hv).1
  have hlist : ∀ j u, x[j]? = some u → w.cell? ⟨g, j, none⟩ = some u := fun j u hj => by
    rw [row_cellP hg, ← Array.getElem?_toList]
    rw [hx, ← hcur, List.getElem?_take] at hj
    split at hj
    · exact hj
    · cases hj
  have hA : (x.take (i * 6)).length = i * 6 := by rw [List.length_take]; omega
  have hD : (x.drop (i * 6)).length = (N - i) * 6 := by rw [List.length_drop]; omega
  obtain ⟨zs, rs, cap, hzl, hcap, hcm, hrl, hap⟩ := run_append_zeros pentEl (tn := 3) Tryz.underlying3 w 107 ⟨g, 0, none⟩ i N (N + 1 - i) (x.take (i * 6)) hA (fun j u hj => by
    rw [addr_add, Nat.zero_add]
    rw [List.getElem?_take] at hj
    split at hj
    · exact hlist j u hj
    · cases hj) (by omega) (by omega) (by omega)
  have eN : i + (N + 1 - i) = N + 1 := by omega
  have eI : ((N + 1 - i : Nat) : Int) = (N : Int) + 1 - (i : Int) := by omega
  rw [eN] at hcap hrl hap
  rw [eI] at hap
  obtain ⟨h, hh⟩ : ∃ h, h = w.heap.size := ⟨_, rfl⟩
  obtain ⟨c0, hc0⟩ : ∃ c0, c0 = x.take (i * 6) ++ zs ++ rs := ⟨_, rfl⟩
  obtain ⟨c1, hc1⟩ : ∃ c1, c1 = c0.take (i * 6) ++ encE V ++ c0.drop (i * 6 + (encE V).length) := ⟨_, rfl⟩
  obtain ⟨c2, hc2⟩ : ∃ c2, c2 = c1.take (i * 6 + 6) ++ x.drop (i * 6) ++ c1.drop (i * 6 + 6 + (x.drop (i * 6)).length) := ⟨_, rfl⟩
  obtain ⟨k1, k2, k3⟩ := ins_grow x (encE V) zs rs (i * 6) (N * 6) 6 hxl (by omega) rfl (by rw [hzl]; omega) c0 c1 c2 hc0 hc1 hc2
  have k0 : c0.length = cap * 6 := by rw [hc0]; simp only [List.length_append, hA, hzl, hrl]; omega
  obtain ⟨W0, hW0⟩ : ∃ W0, W0 = w.drew.alloc (.cells c0.toArray 31) := ⟨_, rfl⟩
  obtain ⟨W1, hW1⟩ : ∃ W1, W1 = W0.setRow h c1.toArray := ⟨_, rfl⟩
  obtain ⟨W2, hW2⟩ : ∃ W2, W2 = W1.drew.setRow h c2.toArray := ⟨_, rfl⟩
  rw [← hc0, ← hW0, ← hh] at hap
  have q0 : W0.heap[h]? = some (.cells c0.toArray 31 (0, 0)) := by rw [hW0, hh]; exact heap_alloc_new w.drew _
  have q1 : W1.heap[h]? = some (.cells c1.toArray 31 (0, 0)) := by rw [hW1]; exact setRow_heap W0 h _ _ 31 _ q0
  have q2 : W2.heap[h]? = some (.cells c2.toArray 31 (0, 0)) := by rw [hW2]; exact setRow_heap W1.drew h _ _ 31 _ q1
  have old0 : ∀ k, k < w.heap.size → W0.heap[k]? = w.heap[k]? := fun k hk => by rw [hW0]; exact heap_alloc_old w.drew _ hk
  have old1 : ∀ k, k < w.heap.size → W1.heap[k]? = w.heap[k]? := fun k hk => by rw [hW1]; exact (setRow_other W0 h k _ (by omega)).trans (old0 k hk)
  have old2 : ∀ k, k < w.heap.size → W2.heap[k]? = w.heap[k]? := fun k hk => by rw [hW2]; exact (setRow_other W1.drew h k _ (by omega)).trans (old1 k hk)
  have hcp1 : (Builtin.copy_ #[107, 107] 3 #[.slice (some ⟨h, i * 6, none⟩) (N + 1 - i) (cap - i), .slice (some ⟨vb, 0, none⟩) 1 1]).run Tryz.prog W0 = .ok (goInt 1) W1 := by
    have := run_copy_els pentEl W0 3 h (i * 6) (N + 1 - i) (cap - i) ⟨vb, 0, none⟩ 1 1 1 c0.toArray (encE V) q0 (by simp only [Nat.min_def]; split <;> omega) rfl (fun j u hj => by
      rw [addr_add, Nat.zero_add, row_cellP ((old0 vb hvl).trans hv)]
      simpa using hj) (by rw [encE_len, List.size_toArray, k0]; omega) (encE_one V)
    rw [this, hW1, hc1]
    rfl
  have hcp2 : (Builtin.copy_ #[107, 107] 3 #[.slice (some ⟨h, (i + 1) * 6, none⟩) (N + 1 - (i + 1)) (cap - (i + 1)), .slice (some ⟨g, i * 6, none⟩) (N - i) (N - i)]).run Tryz.prog W1.drew = .ok (goInt ((N - i : Nat) : Int)) W2 := by
    have := run_copy_els pentEl W1.drew 3 h ((i + 1) * 6) (N + 1 - (i + 1)) (cap - (i + 1)) ⟨g, i * 6, none⟩ (N - i) (N - i) (N - i) c1.toArray (x.drop (i * 6)) q1 (by simp only [Nat.min_def]; split <;> omega) hD (fun j u hj => by
      rw [addr_add]
      show W1.cell? _ = _
      rw [World.cell?_of_block (w := w) (old1 g hgl)]
      exact hlist _ u (by rw [List.getElem?_drop] at hj; exact hj)) (by rw [hD, List.size_toArray, k3, hrl]; omega) (fun u hu => h1x u (List.mem_of_mem_drop hu))
    rw [this, hW2, hc2, show (i + 1) * 6 = i * 6 + 6 by omega]
  have HF : Hid (InsP w W2 (some ⟨g, 0, none⟩) (some ⟨h, 0, none⟩) N N cap (L.take i ++ V :: L.drop i)) := by
    rw [hx, ins_flatP] at k1
    refine ⟨⟨?_, .inr ⟨h, cap, c2.toArray, rfl, Nat.zero_le _, q2, hcap, hcm, by rw [List.size_toArray, k2, hrl]; omega, by rw [show (N + 1) * 6 = N * 6 + 6 by omega]; exact k1⟩⟩, ?_, fun k hk => ?_⟩
    · rw [encEs_len]
      simp only [List.length_append, List.length_cons, List.length_take, List.length_drop, hN]
      omega
    · refine ⟨?_, ?_, ?_, ?_, fun k hk _ => old2 k hk⟩
      · rw [hW2, hW1, hW0]; rfl
      · rw [hW2, hW1, hW0]; rfl
      · rw [hW2, hW1, hW0]; rfl
      · rw [hW2, hW1, hW0]; simp
    · have e : h = k := by simpa [Value.ownBlock] using hk
      exact .inr (by omega)
  have hin : i ≤ N := by omega
  have hz2 : ¬ ((i : Int) = (N : Int)) := by omega
  have hb2 : ¬ (cap = i + 1) := by omega
  have hb4 : ¬ (N = i) := by omega
  have hb5 : ¬ (cap = i) := by omega
  have hc63 : cap ≤ 9223372036854775807 := by unfold maxLen at hcm; omega
  have hw1 : IntKind.i64.wrap ((i : Int) + 1) = (i : Int) + 1 := by rw [IntKind.wrap_i64]; omega
  have hb1 : (0 : Int) ≤ (i : Int) + 1 := by omega
  have htn : ((i : Int) + 1).toNat = i + 1 := by omega
  have hb3 : (i : Int) ≤ (N : Int) + 1 := by omega
  clear hlist hc0 hc1 hc2 hW0 hW1 hW2 hA hD hcur hrow hv hg hxl h1x hcs k0 k1 k2 k3 q0 q1 q2 old0 old1 old2 hzl hrl hx hgl hvl eN eI hh
  go_enter Tryz.func91, Tryz.ntmps91
  go_wp2_with (first | (at_builtin; refine Lib.wpList_append_run _ rfl _ _ 107 3 rfl _ _ rfl rfl _ _ hap ?_) | (at_builtin; refine wpList_copyP _ rfl _ _ 107 107 rfl _ _ rfl rfl hcp1 ?_))
  go_region_law (refine step_copyP rfl _ _ 107 107 rfl _ _ (by simp [Act.eval, Act.put]) (by simp [Act.eval, Act.put]) hcp2 ?_)
  go_wp2
  go_ret
  exact ⟨_, _, rfl, HF.out⟩
theorem pins_any (a : Option Addr) (c N i vb : Nat) (L : List EntM) (V : EntM) (w : World) (hN : L.length = N) (hi : i ≤ N) (hfew : N ≤ 1000) (hrow : w.ownsRow 0 31 6 (.slice a N c) N (L.flatMap encE)) (hv : w.heap[vb]? = some (.cells (encE V).toArray 31 (0, 0))) (hne : ∀ k, (Value.slice a N c).ownBlock = some k → vb ≠ k) :
    Calls Tryz.prog 91 #[.slice a N c, .int .i64 i, .slice (some ⟨vb, 0, none⟩) 1 1] w fun e w' => ∃ a' c', e = .returned (.slice a' (N + 1) c') ∧ InsP w w' a a' N c c' (L.take i ++ V :: L.drop i) := by
  by_cases hiN : i = N
  · subst hiN
    exact pins_end a c i vb L V w hN hfew hrow hv
  · rcases hrow.2 with ⟨e1, e2⟩ | ⟨g, cap, cur, e1, _, hh, e5, _⟩
    · omega
    · cases e1
      by_cases hc : N + 1 ≤ c
      · exact pins_room g c N i vb L V w hN (by omega) hc hfew hrow hv (hne g rfl)
      · obtain rfl : c = N := by omega
        exact pins_grow g c i vb L V w hN (by omega) hfew hrow hv
/-- One goes: what is behind it moves down, zeros behind the last. -/
theorem del_one {α : Type} (cur x z : List α) (k n s : Nat) (hx : cur.take n = x) (hn : x.length = n) (hk : k + s ≤ n) (hz : z.length = s) (hfit : n ≤ cur.length) (c1 c2 : List α)
    (h1 : c1 = cur.take k ++ x.drop (k + s) ++ cur.drop (k + (x.drop (k + s)).length)) (h2 : c2 = c1.take (n - s) ++ z ++ c1.drop (n - s + z.length)) :
    c2.take (n - s) = x.take k ++ x.drop (k + s) ∧ c2.length = cur.length ∧ c1.length = cur.length := by
  have hd : (x.drop (k + s)).length = n - (k + s) := by rw [List.length_drop, hn]
  have ek : cur.take k = x.take k := by rw [← hx, List.take_take]; congr 1; omega
  have hl1 : (x.take k).length = k := by rw [List.length_take]; omega
  have l1 : c1.length = cur.length := by rw [h1, ek]; simp only [List.length_append, hl1, hd, List.length_drop]; omega
  have e1 : c1.take (n - s) = x.take k ++ x.drop (k + s) := by
    rw [h1, ek]
    have : (x.take k ++ x.drop (k + s)).length = n - s := by simp only [List.length_append, hl1, hd]; omega
    rw [← this]
    exact List.take_left
  refine ⟨?_, ?_, l1⟩
  · rw [h2, e1, List.append_assoc]
    have : (x.take k ++ x.drop (k + s)).length = n - s := by simp only [List.length_append, hl1, hd]; omega
    rw [← this]
    exact List.take_left
  · rw [h2, e1]
    simp only [List.length_append, hl1, hd, hz, List.length_drop, l1]
    omega
/-- What is left behind one that went. -/
structure DelP (w w' : World) (a : Option Addr) (N c : Nat) (M : List EntM) : Prop where
  row : w'.ownsRow 0 31 6 (.slice a (N - 1) c) (N - 1) (M.flatMap encE)
  grown : w.grownBy w' (Value.slice a N c).ownBlock
theorem del_flatP (L : List EntM) (i : Nat) : (L.flatMap encE).take (i * 6) ++ (L.flatMap encE).drop (i * 6 + 6) = (L.take i ++ L.drop (i + 1)).flatMap encE := by
  rw [show i * 6 + 6 = (i + 1) * 6 by omega, encEs_take, encEs_drop, List.flatMap_append]
set_option maxHeartbeats 4000000 in
set_option maxRecDepth 4000 in
theorem pdel_any (a : Option Addr) (c N i : Nat) (L : List EntM) (w : World) (hN : L.length = N) (hi : i < N) (hfew : N ≤ 1000) (hrow : w.ownsRow 0 31 6 (.slice a N c) N (L.flatMap encE)) :
    Calls Tryz.prog 139 #[.slice a N c, .int .i64 i, .int .i64 ((i : Int) + 1)] w fun e w' => e = .returned (.slice a (N - 1) c) ∧ DelP w w' a N c (L.take i ++ L.drop (i + 1)) := by
  rcases hrow.2 with ⟨e1, e2⟩ | ⟨g, cap, cur, e1, _, hg, e5, hcm, hcs, hcur⟩
  · omega
  · cases e1
    have hc63 : c ≤ 9223372036854775807 := by unfold maxLen at hcm; omega
    obtain ⟨i0, z, hi0, hz0, hz1, hz2, hz3⟩ := pentEl.info
    obtain ⟨x, hx⟩ : ∃ x, x = L.flatMap encE := ⟨_, rfl⟩
    have hxl : x.length = N * 6 := by rw [hx, encEs_len, hN]
    have h1x : ∀ u ∈ x, u.oneCell' = true := fun u hu => encEs_one L u (by rw [hx] at hu; exact hu)
    have hlist : ∀ j u, x[j]? = some u → w.drew.cell? ⟨g, j, none⟩ = some u := fun j u hj => by
      show w.cell? _ = _
      rw [row_cellP hg, ← Array.getElem?_toList]
      rw [hx, ← hcur, List.getElem?_take] at hj
      split at hj
      · exact hj
      · cases hj
    have hD : (x.drop (i * 6 + 6)).length = (N - (i + 1)) * 6 := by rw [List.length_drop]; omega
    obtain ⟨c1, hc1⟩ : ∃ c1, c1 = cur.toList.take (i * 6) ++ x.drop (i * 6 + 6) ++ cur.toList.drop (i * 6 + (x.drop (i * 6 + 6)).length) := ⟨_, rfl⟩
    obtain ⟨W1, hW1⟩ : ∃ W1, W1 = w.drew.setRow g c1.toArray := ⟨_, rfl⟩
    have hap : ∀ ad : Option Addr, (ad = some ⟨g, (i + 1) * 6, none⟩ ∨ i + 1 = N ∧ ad = some ⟨g, 0, none⟩) → (Builtin.append_ #[107, 107] 107 #[.slice (some ⟨g, 0, none⟩) i c, .slice ad (N - (i + 1)) (c - (i + 1))]).run Tryz.prog w.drew = .ok (.slice (some ⟨g, 0, none⟩) (N - 1) c) W1 := fun ad had => by
      obtain ⟨sa, rfl, hsa⟩ : ∃ sa, ad = some sa ∧ ∀ j u, (x.drop (i * 6 + 6))[j]? = some u → w.drew.cell? (sa.add j) = some u := by
        rcases had with rfl | ⟨e, rfl⟩
        · exact ⟨_, rfl, fun j u hj => by rw [addr_add]; exact hlist _ u (by rw [List.getElem?_drop] at hj; rw [show (i + 1) * 6 + j = i * 6 + 6 + j by omega]; exact hj)⟩
        · refine ⟨_, rfl, fun j u hj => ?_⟩
          rw [List.drop_eq_nil_of_le (by rw [hxl]; omega)] at hj
          simp at hj
      have := run_append_room (P := Tryz.prog) w.drew 107 107 31 i0 pentEl.ht hi0 g i c cur hg sa (N - (i + 1)) (c - (i + 1)) (x.drop (i * 6 + 6)) (by rw [hz1]; exact hD) hsa (fun u hu => h1x u (List.mem_of_mem_drop hu)) (by omega) (by rw [hz1, hD, hcs]; omega)
      rw [this, hW1, hc1, hz1, show i + (N - (i + 1)) = N - 1 by omega]
    have hl1 : c1.length = c * 6 := by rw [hc1]; simp only [List.length_append, List.length_take, List.length_drop, hD, Array.length_toList, hcs]; omega
    have q1 : W1.heap[g]? = some (.cells c1.toArray 31 (0, 0)) := by rw [hW1]; exact setRow_heap w.drew g _ _ 31 _ hg
    obtain ⟨zs, hzl, hcl⟩ := run_clear_els pentEl pent_zero W1 0 g ((N - 1) * 6) 1 (c - (N - 1)) c1.toArray q1 (by omega) (by rw [List.size_toArray, hl1]; omega)
    obtain ⟨c2, hc2⟩ : ∃ c2, c2 = c1.take ((N - 1) * 6) ++ zs ++ c1.drop ((N - 1) * 6 + zs.length) := ⟨_, rfl⟩
    obtain ⟨W2, hW2⟩ : ∃ W2, W2 = W1.setRow g c2.toArray := ⟨_, rfl⟩
    obtain ⟨k1, k2, _⟩ := del_one cur.toList x zs (i * 6) (N * 6) 6 (by rw [hx]; exact hcur) hxl (by omega) (by rw [hzl]) (by rw [Array.length_toList, hcs]; omega) c1 c2 hc1 (by rw [hc2, show N * 6 - 6 = (N - 1) * 6 by omega])
    have hcl2 : ∀ ty, (Builtin.clear_ #[107] ty #[.slice (some ⟨g, (N - 1) * 6, none⟩) 1 (c - (N - 1))]).run Tryz.prog W1 = .ok (.tuple #[]) W2 := fun ty => by
      rw [hW2, hc2]
      exact hcl
    have HF : Hid (DelP w W2 (some ⟨g, 0, none⟩) N c (L.take i ++ L.drop (i + 1))) := by
      refine ⟨⟨?_, .inr ⟨g, c, c2.toArray, rfl, Nat.zero_le _, by rw [hW2]; exact setRow_heap W1 g _ _ 31 _ q1, by omega, hcm, by rw [List.size_toArray, k2, Array.length_toList]; exact hcs, ?_⟩⟩, ?_⟩
      · rw [encEs_len, List.length_append, List.length_take, List.length_drop, hN]
        congr 1
        omega
      · rw [← del_flatP, ← hx, show (N - 1) * 6 = N * 6 - 6 by omega]
        exact k1
      · rw [hW2, hW1]
        exact ⟨rfl, rfl, rfl, by simp, fun j _ hj => (setRow_other _ g j _ (fun e => hj (by simp [Value.ownBlock, e]))).trans (setRow_other w.drew g j _ (fun e => hj (by simp [Value.ownBlock, e])))⟩
    have hz2 : ¬ ((i : Int) = (i : Int) + 1) := by omega
    have hb1 : (i : Int) + 1 ≤ (N : Int) := by omega
    have hb6 : ¬ (c = N - 1) := by omega
    have hb7 : N - (N - 1) = 1 := by omega
    have hb8 : N - 1 ≤ N := by omega
    have hb9 : (0 : Int) ≤ (i : Int) + 1 := by omega
    have htn : ((i : Int) + 1).toNat = i + 1 := by omega
    have hii : (i : Int) ≤ (i : Int) + 1 := by omega
    have hNi : ((N - 1 : Nat) : Int) = (N : Int) - 1 := by omega
    clear hlist hc1 hc2 hW1 hW2 hD hcur hrow hg hxl h1x hcs hl1 k1 k2 q1 hzl hcl hx
    have hic : i ≤ c := by omega
    by_cases hck : c = i + 1
    · have ha := hap (some ⟨g, 0, none⟩) (.inr ⟨by omega, rfl⟩)
      clear hap
      obtain rfl : N = i + 1 := by omega
      subst hck
      rw [Nat.sub_self, Nat.add_sub_cancel] at ha
      have hcl3 : ∀ ty, (Builtin.clear_ #[107] ty #[.slice (some ⟨g, i * 6, none⟩) 1 1]).run Tryz.prog W1 = .ok (.tuple #[]) W2 := fun ty => by
        have := hcl2 ty
        rw [Nat.add_sub_cancel, Nat.add_sub_cancel_left] at this
        exact this
      rw [Nat.add_sub_cancel]
      clear hcl2 hb6 hb7 hb8 hNi
      have hne1 : ¬ (i + 1 = i) := by omega
      go_enter Tryz.func139, Tryz.ntmps139
      go_wp2
      go_region_law (refine step_appendP rfl _ _ 107 107 rfl _ _ (by simp [Act.eval, Act.put]) (by simp [Act.eval, Act.put]) ha ?_)
      go_wp2_with (at_builtin; refine wpList_clearP _ rfl _ 107 rfl _ rfl (hcl3 _) ?_)
      go_ret
      exact ⟨rfl, HF.out⟩
    · have ha := hap (some ⟨g, (i + 1) * 6, none⟩) (.inl rfl)
      clear hap
      go_enter Tryz.func139, Tryz.ntmps139
      go_wp2
      go_region_law (refine step_appendP rfl _ _ 107 107 rfl _ _ (by simp [Act.eval, Act.put]) (by simp [Act.eval, Act.put]) ha ?_)
      go_wp2_with (at_builtin; refine wpList_clearP _ rfl _ 107 rfl _ rfl (hcl2 _) ?_)
      go_ret
      exact ⟨rfl, HF.out⟩
end Go.Proofs.YtileidbdmpeciaaGreat

