/-
  Who holds a key of a landed table (package prep: holding, anyHeld; slices.IndexFunc, ContainsFunc).
-/
import Derived.Test.YtileidbdmpeciaaGreatPrepT2
namespace Go.Proofs.YtileidbdmpeciaaGreat
open Go.RowKit
set_option linter.unusedVariables false

theorem WrtMine.keyat {w : World} {b : Nat} {W : Wrt} (h : WrtMine w b 0 W) : KeyAt w b 0 W.k := h.at_.key h.key
set_option maxHeartbeats 2000000 in
/-- Has a write that key? -/
theorem pclk_any (W : Wrt) (hW : WrtOk W) (k : List Int) (hk : Ky k) (bk : Nat) (w : World) (hat : KeyAt w bk 0 k) :
    Calls Tryz.prog 143 #[wv W, .pointer (some ⟨bk, 0, none⟩)] w fun e w' => e = .returned (.bool (decide (W.k = k))) ∧ Below w.heap.size w w' := by
  obtain ⟨C, hC⟩ : ∃ C, C = encW W := ⟨_, rfl⟩
  obtain ⟨w1, hw1⟩ : ∃ u, u = w.alloc (.cells C.toArray 80) := ⟨_, rfl⟩
  have hmine : WrtMine w1 w.heap.size 0 W := by rw [hw1, hC]; exact WrtMine.made w 80 W hW.key
  have HB1 : Hid (Below w.heap.size w w1) := by rw [hw1]; exact (Below.refl _ _).alloc (Nat.le_refl _) _
  have F1 : Hid (KeyAt w1 w.heap.size 0 W.k) := hmine.keyat
  have F2 : Hid (KeyAt w1 bk 0 k) := hat.past HB1.out
  have K1 : Hid (Ky W.k) := hW.key
  have K2 : Hid (Ky k) := hk
  have heq := fun u => eq_key u W.k k hW.key hk
  have HW1 : Hid (w.alloc (.cells C.toArray 80) = w1) := hw1.symm
  show Calls Tryz.prog 143 #[.agg (encW W).toArray, .pointer (some ⟨bk, 0, none⟩)] w _
  rw [← hC]
  generalize decide (W.k = k) = R at *
  generalize W.k = j at *
  clear hmine hw1 hC hW hk hat
  go_enter Tryz.func143, Tryz.ntmps143
  go_wp2_with (first | ((with_reducible show wpList _ _ _ (Oper.mk (some 5) _ _ _ _ _ :: _) _ _); rw [HW1.out]; refine wpList_load_keyD 5 (by rfl) (by rfl) _ (by rfl) w.heap.size 0 (by rfl) j K1.out F1.out ?_) | ((with_reducible show wpList _ _ _ (Oper.mk (some 6) _ _ _ _ _ :: _) _ _); refine wpList_load_keyD 6 (by rfl) (by rfl) _ (by rfl) bk 0 (by rfl) k K2.out F2.out ?_))
  go_ret
  exact ⟨rfl, HB1.out⟩
/-- What the rounds of IndexFunc hold. -/
structure IdxSk (w u : World) (P : Wrt → Bool) (l : List Wrt) (n : Nat) : Prop where
  below : Below w.heap.size w u
  none : ∀ W ∈ l.take n, P W = false
set_option maxHeartbeats 2000000 in
theorem pindexk_any (a : Option Addr) (N cap : Nat) (l : List Wrt) (P : Wrt → Bool) (bs : Nat) (w : World) (hl : l.length = N) (hc : N ≤ cap) (hN : N ≤ 1000000) (hat : WrtsAt w a l)
    (hcc : ∀ W ∈ l, ∀ u, Below w.heap.size w u → Calls Tryz.prog 143 #[wv W, .pointer (some ⟨bs, 0, none⟩)] u fun e w' => e = .returned (.bool (P W)) ∧ Below u.heap.size u w') :
    Calls Tryz.prog 124 #[.slice a N cap, .func (.func 143) #[] #[.pointer (some ⟨bs, 0, none⟩)]] w fun e w' => (∃ i : Int, e = .returned (.int .i64 i) ∧ -1 ≤ i ∧ i ≤ 1000000 ∧ (0 ≤ i ↔ l.any P = true)) ∧ Below w.heap.size w w' := by
  have HL : Hid (l.length = N) := hl
  have HA : Hid (WrtsAt w a l) := hat
  have HC : Hid (∀ W ∈ l, ∀ u, Below w.heap.size w u → Calls Tryz.prog 143 #[wv W, .pointer (some ⟨bs, 0, none⟩)] u fun e w' => e = .returned (.bool (P W)) ∧ Below u.heap.size u w') := hcc
  clear hl hat hcc
  go_enter Tryz.func124, Tryz.ntmps124
  go_wp2
  go_loopw [8] (fun i wr => ∃ n : Nat, n ≤ N ∧ i = .int .i64 n ∧ Hid (IdxSk w wr P l n)) (fun i _ => N - (intOf i).toNat)
  case atStart => exact ⟨0, Nat.zero_le _, rfl, ⟨Below.refl _ _, fun W hW => by simp at hW⟩⟩
  case round =>
    obtain ⟨n, hn, rfl, HS⟩ := hrel
    have hn0 : (0 : Int) ≤ (n : Int) := by omega
    by_cases hlt : n < N
    · have h1 : (n : Int) < (N : Int) := by omega
      obtain ⟨W, hW⟩ : ∃ W, l[n]? = some W := ⟨_, List.getElem?_eq_getElem (by rw [HL.out]; exact hlt)⟩
      obtain ⟨b, o, rfl, hwa, hwo⟩ := (HA.out.past (w' := wr) HS.out.below).wrt hW
      have HWA : Hid (WrtAt wr b (o + n * 18) W) := hwa
      have HT : Hid (l.take (n + 1) = l.take n ++ [W]) := by show _ = _; rw [List.take_add_one, hW]; rfl
      have HWM : Hid (W ∈ l) := List.mem_of_getElem? hW
      have KW : Hid (Ky W.k) := hwo.key
      have CG0 := HC.out W HWM.out wr HS.out.below
      obtain ⟨pw, hpw⟩ : ∃ x, x = P W := ⟨_, rfl⟩
      have HPW : Hid (pw = P W) := hpw
      rw [← hpw] at CG0
      have CG : Hid (Calls Tryz.prog 143 #[wv W, .pointer (some ⟨bs, 0, none⟩)] wr fun e w' => e = .returned (.bool pw) ∧ Below wr.heap.size wr w') := CG0
      clear hwa hwo hW CG0 hpw
      cases pw with
      | true =>
        go_wp2_with (first | (have hgo := HWA.out; clear hgo; refine wpList_load_wrt 15 (by rfl) (by rfl) _ (by rfl) b (o + n * 18) (by rfl) W KW.out HWA.out ?_) | (go_at_call 143; refine CG.out.mono ?_; rintro e w3 ⟨rfl, hb3⟩; have H3 : Hid (Below w.heap.size w w3) := HS.out.below.trans (hb3.mono HS.out.below.size); clear hb3))
        go_ret
        refine ⟨⟨(n : Int), rfl, by omega, by omega, ?_⟩, H3.out⟩
        exact ⟨fun _ => List.any_eq_true.2 ⟨W, HWM.out, HPW.out.symm⟩, fun _ => hn0⟩
      | false =>
        go_wp2_with (first | (have hgo := HWA.out; clear hgo; refine wpList_load_wrt 15 (by rfl) (by rfl) _ (by rfl) b (o + n * 18) (by rfl) W KW.out HWA.out ?_) | (go_at_call 143; refine CG.out.mono ?_; rintro e w3 ⟨rfl, hb3⟩; have H3 : Hid (IdxSk w w3 P l (n + 1)) := ⟨HS.out.below.trans (hb3.mono HS.out.below.size), fun V hV => by rw [HT.out] at hV; rcases List.mem_append.1 hV with e | e; exact HS.out.none V e; simp at e; rw [e]; exact HPW.out.symm⟩; clear hb3))
        go_roundw
        case rel => exact ⟨n + 1, by omega, by go_num, H3⟩
        case measure => simp [intOf]; omega
    · obtain rfl : n = N := by omega
      have HT : Hid (l.take n = l) := List.take_of_length_le (by rw [HL.out]; exact Nat.le_refl _)
      go_wp2
      go_ret
      refine ⟨⟨-1, rfl, by omega, by omega, fun e => by omega, fun e => ?_⟩, HS.out.below⟩
      obtain ⟨W, hW, e2⟩ := List.any_eq_true.1 e
      rw [HS.out.none W (by rw [HT.out]; exact hW)] at e2
      cases e2
theorem pcontk_any (a : Option Addr) (N cap : Nat) (l : List Wrt) (P : Wrt → Bool) (bs : Nat) (w : World) (hl : l.length = N) (hc : N ≤ cap) (hN : N ≤ 1000000) (hat : WrtsAt w a l)
    (hcc : ∀ W ∈ l, ∀ u, Below w.heap.size w u → Calls Tryz.prog 143 #[wv W, .pointer (some ⟨bs, 0, none⟩)] u fun e w' => e = .returned (.bool (P W)) ∧ Below u.heap.size u w') :
    Calls Tryz.prog 83 #[.slice a N cap, .func (.func 143) #[] #[.pointer (some ⟨bs, 0, none⟩)]] w fun e w' => e = .returned (.bool (l.any P)) ∧ Below w.heap.size w w' := by
  have CI : Hid (Calls Tryz.prog 124 #[.slice a N cap, .func (.func 143) #[] #[.pointer (some ⟨bs, 0, none⟩)]] w fun e w' => (∃ i : Int, e = .returned (.int .i64 i) ∧ -1 ≤ i ∧ i ≤ 1000000 ∧ (0 ≤ i ↔ l.any P = true)) ∧ Below w.heap.size w w') := pindexk_any a N cap l P bs w hl hc hN hat hcc
  obtain ⟨R, hR⟩ : ∃ R, R = l.any P := ⟨_, rfl⟩
  rw [← hR] at CI ⊢
  clear hl hat hcc hR
  go_enter Tryz.func83, Tryz.ntmps83
  go_wp2_with (go_at_call 124; refine CI.out.mono ?_; rintro e w1 ⟨⟨i, rfl, hi1, hi2, hi3⟩, hb1⟩; have HI : Hid (0 ≤ i ↔ R = true) := hi3; have HB : Hid (Below w.heap.size w w1) := hb1; clear hi3 hb1)
  go_ret
  refine ⟨?_, HB.out⟩
  by_cases h : 0 ≤ i
  · rw [HI.out.1 h]; simp [h]
  · have : R = false := by
      cases hR : R with
      | false => rfl
      | true => exact absurd (HI.out.2 hR) h
    rw [this]; simp [h]
set_option maxHeartbeats 2000000 in
/-- Has an entry that key? -/
theorem pcle_any (x : EntM) (k : List Int) (hk : Ky k) (bk : Nat) (w : World) (hat : KeyAt w bk 0 k) (hx : EntW w x) :
    Calls Tryz.prog 142 #[ev x, .pointer (some ⟨bk, 0, none⟩)] w fun e w' => e = .returned (.bool (hasK x.e k)) ∧ Below w.heap.size w w' := by
  obtain ⟨w1, hw1⟩ : ∃ u, u = w.alloc (.cells (encE x).toArray 31) := ⟨_, rfl⟩
  have HB1 : Hid (Below w.heap.size w w1) := by rw [hw1]; exact (Below.refl _ _).alloc (Nat.le_refl _) _
  have hmi : EntMine w1 w.heap.size x := by rw [hw1]; exact EntMine.made w 31 x
  have CC : Hid (Calls Tryz.prog 83 #[.slice x.a x.e.l.length x.c, .func (.func 143) #[] #[.pointer (some ⟨bk, 0, none⟩)]] w1 fun e w' => e = .returned (.bool (hasK x.e k)) ∧ Below w1.heap.size w1 w') :=
    pcontk_any x.a x.e.l.length x.c x.e.l (fun W => decide (W.k = k)) bk w1 rfl hx.room hx.few (hx.wr.past HB1.out) (fun W hW u hb => pclk_any W (hx.wr.oks W hW) k hk bk u ((hat.past HB1.out).past hb))
  obtain ⟨y0, y1, y2, y3, y4, y5⟩ := hmi.at_.cells
  rw [Nat.zero_add] at y1 y2 y3 y4 y5
  have HW1 : Hid (w.alloc (.cells (encE x).toArray 31) = w1) := hw1.symm
  generalize hasK x.e k = R at *
  show Calls Tryz.prog 142 #[.agg #[.int .i64 x.e.id, .int .i64 x.e.s, .int .u8 x.e.m, .int .i64 x.e.t, .int .u8 x.e.n, .slice x.a x.e.l.length x.c], .pointer (some ⟨bk, 0, none⟩)] w _
  have HW2 : Hid (w.alloc (.cells #[.int .i64 x.e.id, .int .i64 x.e.s, .int .u8 x.e.m, .int .i64 x.e.t, .int .u8 x.e.n, .slice x.a x.e.l.length x.c] 31) = w1) := HW1.out
  generalize x.e.l.length = L1 at *
  generalize x.e.id = i1 at *
  generalize x.e.s = s1 at *
  generalize x.e.m = m1 at *
  generalize x.e.t = t1 at *
  generalize x.e.n = n1 at *
  generalize x.a = xa at *
  generalize x.c = xc at *
  clear hmi HW1 hw1 hat hx y0 y1 y2 y3 y4 y5
  go_enter Tryz.func142, Tryz.ntmps142
  go_wp2_with (go_at_call 83; rw [HW2.out]; refine CC.out.mono ?_; rintro e w2 ⟨rfl, hb2⟩; have HB2 : Hid (Below w.heap.size w w2) := HB1.out.trans (hb2.mono HB1.out.size); clear hb2)
  go_ret
  exact ⟨rfl, HB2.out⟩
/-- The place of the first that has a key. -/
def idxM (M : List EntM) (k : List Int) : Nat := (M.takeWhile (fun x => !hasK x.e k)).length
theorem idx_facts (M : List EntM) (k : List Int) : (idxM M k < M.length → ∃ x, M[idxM M k]? = some x ∧ holdM M k = some x) ∧ (idxM M k = M.length → holdM M k = none) ∧ idxM M k ≤ M.length := by
  unfold idxM holdM
  induction M with
  | nil => exact ⟨fun h => by simp at h, fun _ => rfl, by simp⟩
  | cons y r ih =>
    cases h : hasK y.e k with
    | true =>
      rw [List.takeWhile_cons_of_neg (by simp [h]), List.find?_cons_of_pos (by simpa using h)]
      exact ⟨fun _ => ⟨y, rfl, rfl⟩, fun e => by simp at e, by simp⟩
    | false =>
      rw [List.takeWhile_cons_of_pos (by simp [h]), List.find?_cons_of_neg (by simp [h])]
      obtain ⟨i1, i2, i3⟩ := ih
      refine ⟨fun hl => ?_, fun e => i2 (by simpa using e), by simpa using i3⟩
      obtain ⟨x, h1, h2⟩ := i1 (by simpa using hl)
      exact ⟨x, by simpa using h1, h2⟩
theorem idx_is {M : List EntM} {k : List Int} {n : Nat} (hn : n ≤ M.length) (h : ∀ j (x : EntM), j < n → M[j]? = some x → hasK x.e k = false) (hx : n = M.length ∨ ∃ x : EntM, M[n]? = some x ∧ hasK x.e k = true) : idxM M k = n :=
  tw_len hn (fun j x hj hjx => by rw [h j x hj hjx]; rfl) (hx.imp (fun h => h) (fun ⟨x, h1, h2⟩ => ⟨x, h1, by rw [h2]; rfl⟩))
set_option maxHeartbeats 4000000 in
theorem pindexe_any (a : Option Addr) (N cap : Nat) (M : List EntM) (k : List Int) (hk : Ky k) (bk : Nat) (w : World) (hl : M.length = N) (hc : N ≤ cap) (hN : N ≤ 1000000) (hrow : PRow w (.slice a M.length cap) M) (hw : ∀ x ∈ M, EntW w x) (hat : KeyAt w bk 0 k) :
    Calls Tryz.prog 141 #[.slice a N cap, .func (.func 142) #[] #[.pointer (some ⟨bk, 0, none⟩)]] w fun e w' => e = .returned (.int .i64 (if idxM M k < N then (idxM M k : Int) else -1)) ∧ Below w.heap.size w w' := by
  have HL : Hid (M.length = N) := hl
  have HROW : Hid (∀ u, Below w.heap.size w u → PRow u (.slice a M.length cap) M) := fun u hb => own_below hrow hb (Nat.le_refl _)
  have HC : Hid (∀ x ∈ M, ∀ u, Below w.heap.size w u → Calls Tryz.prog 142 #[ev x, .pointer (some ⟨bk, 0, none⟩)] u fun e w' => e = .returned (.bool (hasK x.e k)) ∧ Below u.heap.size u w') := fun x hx u hb => pcle_any x k hk bk u (hat.past hb) ((hw x hx).past hb)
  obtain ⟨R, hR⟩ : ∃ R, R = (if idxM M k < N then (idxM M k : Int) else -1) := ⟨_, rfl⟩
  have HR : Hid (R = if idxM M k < N then (idxM M k : Int) else -1) := hR
  rw [← hR]
  clear hl hat hrow hw hR
  go_enter Tryz.func141, Tryz.ntmps141
  go_wp2
  go_loopw [8] (fun i wr => ∃ n : Nat, n ≤ N ∧ i = .int .i64 n ∧ Hid (Below w.heap.size w wr) ∧ Hid (∀ j (x : EntM), j < n → M[j]? = some x → hasK x.e k = false)) (fun i _ => N - (intOf i).toNat)
  case atStart => exact ⟨0, Nat.zero_le _, rfl, Below.refl _ _, fun j x h => absurd h (Nat.not_lt_zero _)⟩
  case round =>
    obtain ⟨n, hn, rfl, HS, HJ⟩ := hrel
    have hn0 : (0 : Int) ≤ (n : Int) := by omega
    by_cases hlt : n < N
    · have h1 : (n : Int) < (N : Int) := by omega
      obtain ⟨x, hx⟩ : ∃ x, M[n]? = some x := ⟨_, List.getElem?_eq_getElem (by rw [HL.out]; exact hlt)⟩
      obtain ⟨g, hag, _, hea⟩ := (HROW.out wr HS.out).ent hx
      subst hag
      have FE : Hid (EntAt wr g (n * 6) x) := hea
      have HX : Hid (M[n]? = some x) := hx
      have CG0 := HC.out x (List.mem_of_getElem? hx) wr HS.out
      obtain ⟨pw, hpw⟩ : ∃ z, z = hasK x.e k := ⟨_, rfl⟩
      have HPW : Hid (pw = hasK x.e k) := hpw
      rw [← hpw] at CG0
      have CG : Hid (Calls Tryz.prog 142 #[ev x, .pointer (some ⟨bk, 0, none⟩)] wr fun e w' => e = .returned (.bool pw) ∧ Below wr.heap.size wr w') := CG0
      clear hea hx CG0 hpw
      cases pw with
      | true =>
        have HI : Hid (R = (n : Int)) := by
          show R = _
          rw [HR.out, idx_is (by rw [HL.out]; exact hn) HJ.out (.inr ⟨x, HX.out, HPW.out.symm⟩), if_pos hlt]
        go_wp2_with (first | ((with_reducible show wpList _ _ _ (Oper.mk (some 15) _ _ _ _ _ :: _) _ _); refine wpList_load_pent 15 (by rfl) (by rfl) _ (by rfl) g (n * 6) (by rfl) x FE.out ?_) | (go_at_call 142; refine CG.out.mono ?_; rintro e w3 ⟨rfl, hb3⟩; have H3 : Hid (Below w.heap.size w w3) := HS.out.trans (hb3.mono HS.out.size); clear hb3))
        go_ret
        exact ⟨by rw [HI.out]; rfl, H3.out⟩
      | false =>
        have HJ2 : Hid (∀ j (y : EntM), j < n + 1 → M[j]? = some y → hasK y.e k = false) := fun j y hj hy => by
          by_cases e : j < n
          · exact HJ.out j y e hy
          · obtain rfl : j = n := by omega
            rw [HX.out] at hy
            obtain rfl := Option.some.inj hy
            exact HPW.out.symm
        go_wp2_with (first | ((with_reducible show wpList _ _ _ (Oper.mk (some 15) _ _ _ _ _ :: _) _ _); refine wpList_load_pent 15 (by rfl) (by rfl) _ (by rfl) g (n * 6) (by rfl) x FE.out ?_) | (go_at_call 142; refine CG.out.mono ?_; rintro e w3 ⟨rfl, hb3⟩; have H3 : Hid (Below w.heap.size w w3) := HS.out.trans (hb3.mono HS.out.size); clear hb3))
        go_roundw
        case rel => exact ⟨n + 1, by omega, by go_num, H3, HJ2⟩
        case measure => simp [intOf]; omega
    · obtain rfl : n = N := by omega
      have HI : Hid (R = -1) := by
        show R = _
        rw [HR.out, idx_is (by rw [HL.out]; exact hn) HJ.out (.inl HL.out.symm), if_neg (Nat.lt_irrefl _)]
      go_wp2
      go_ret
      exact ⟨by rw [HI.out]; rfl, HS.out⟩
set_option maxHeartbeats 2000000 in
/-- Who holds a key: his place, and whether there is one. -/
theorem pholding_any (p : Nat) (M : List EntM) (X : Foot) (k : List Int) (hk : Ky k) (w : World) (h : PTab w p M X) :
    Calls Tryz.prog 102 #[.pointer (some ⟨p, 0, none⟩), kv k] w fun e w' => (∃ i : Int, e = .returned (.tuple #[.int .i64 i, .bool (holdM M k).isSome]) ∧ ∀ x, holdM M k = some x → ∃ j : Nat, i = j ∧ j < M.length ∧ M[j]? = some x) ∧ Below w.heap.size w w' := by
  obtain ⟨a, c, hc1, hc2, hc3, hcell, _, _⟩ := h.open
  obtain ⟨N, hN⟩ : ∃ N, N = M.length := ⟨_, rfl⟩
  obtain ⟨w1, hw1⟩ : ∃ u, u = w.alloc (.cells (kcs k) 38) := ⟨_, rfl⟩
  have HB1 : Hid (Below w.heap.size w w1) := by rw [hw1]; exact (Below.refl _ _).alloc (Nat.le_refl _) _
  have hat : KeyAt w1 w.heap.size 0 k := by rw [hw1]; exact KeyAt.made w 38 k hk
  have q0 : w1.cell? ⟨p, 0, none⟩ = some (.slice a N c) := by rw [hN]; exact (hcell w1 HB1.out).1
  obtain ⟨R, hR⟩ : ∃ R, R = (if idxM M k < N then (idxM M k : Int) else -1) := ⟨_, rfl⟩
  have CI : Hid (Calls Tryz.prog 141 #[.slice a N c, .func (.func 142) #[] #[.pointer (some ⟨w.heap.size, 0, none⟩)]] w1 fun e w' => e = .returned (.int .i64 R) ∧ Below w1.heap.size w1 w') := by
    rw [hR]
    exact pindexe_any a N c M k hk w.heap.size w1 hN.symm (by omega) (by rw [hN]; exact Nat.le_trans h.few (by decide)) (hcell w1 HB1.out).2 (fun x hx => (h.wrs x hx).past HB1.out) hat
  obtain ⟨f1, f2, f3⟩ := idx_facts M k
  have HF : Hid (decide (0 ≤ R) = (holdM M k).isSome ∧ ∀ x, holdM M k = some x → ∃ j : Nat, R = j ∧ j < M.length ∧ M[j]? = some x) := by
    rw [← hN] at f1 f2 f3 ⊢
    by_cases hl : idxM M k < N
    · obtain ⟨x, h1, h2⟩ := f1 hl
      rw [if_pos hl] at hR
      rw [h2, hR]
      exact ⟨by simp, fun y e => ⟨idxM M k, rfl, hl, by rw [← Option.some.inj e]; exact h1⟩⟩
    · rw [if_neg hl] at hR
      rw [f2 (by omega), hR]
      exact ⟨rfl, fun y e => by cases e⟩
  have HW1 : Hid (w.alloc (.cells (kcs k) 38) = w1) := hw1.symm
  have hr0 : -1 ≤ R := by rw [hR]; split <;> omega
  obtain ⟨ok, hok⟩ : ∃ x, x = (holdM M k).isSome := ⟨_, rfl⟩
  have HOK : Hid (decide (0 ≤ R) = ok) := by show _ = _; rw [hok]; exact HF.out.1
  have HF2 : Hid (∀ x, holdM M k = some x → ∃ j : Nat, R = j ∧ j < M.length ∧ M[j]? = some x) := HF.out.2
  rw [← hok]
  subst hw1
  clear f1 f2 f3 hR hN hcell h hat hok HF HW1
  go_enter Tryz.func102, Tryz.ntmps102
  go_wp2_with (go_at_call 141; refine CI.out.mono ?_; rintro e w2 ⟨rfl, hb2⟩; have HB2 : Hid (Below w.heap.size w w2) := HB1.out.trans (hb2.mono HB1.out.size); clear hb2)
  go_ret2
  exact ⟨⟨R, by rw [← HOK.out]; rfl, HF2.out⟩, HB2.out⟩
set_option maxHeartbeats 2000000 in
theorem pclh_any (p : Nat) (M : List EntM) (X : Foot) (W : Wrt) (hW : WrtOk W) (bs : Nat) (w : World) (h : PTab w p M X) (hs : w.cell? ⟨bs, 0, none⟩ = some (.pointer (some ⟨p, 0, none⟩))) :
    Calls Tryz.prog 128 #[wv W, .pointer (some ⟨bs, 0, none⟩)] w fun e w' => e = .returned (.bool (holdM M W.k).isSome) ∧ Below w.heap.size w w' := by
  obtain ⟨C, hC⟩ : ∃ C, C = encW W := ⟨_, rfl⟩
  obtain ⟨w1, hw1⟩ : ∃ u, u = w.alloc (.cells C.toArray 80) := ⟨_, rfl⟩
  have hmine : WrtMine w1 w.heap.size 0 W := by rw [hw1, hC]; exact WrtMine.made w 80 W hW.key
  have HB1 : Hid (Below w.heap.size w w1) := by rw [hw1]; exact (Below.refl _ _).alloc (Nat.le_refl _) _
  have F1 : Hid (KeyAt w1 w.heap.size 0 W.k) := hmine.keyat
  have K1 : Hid (Ky W.k) := hW.key
  have q0 : w1.cell? ⟨bs, 0, none⟩ = some (.pointer (some ⟨p, 0, none⟩)) := (HB1.out.cell (p := ⟨bs, 0, none⟩) (cell_lt hs)).trans hs
  obtain ⟨ok, hok⟩ : ∃ x, x = (holdM M W.k).isSome := ⟨_, rfl⟩
  have CH : Hid (Calls Tryz.prog 102 #[.pointer (some ⟨p, 0, none⟩), kv W.k] w1 fun e w' => (∃ i : Int, e = .returned (.tuple #[.int .i64 i, .bool ok])) ∧ Below w1.heap.size w1 w') := by
    rw [hok]
    refine (pholding_any p M X W.k hW.key w1 (h.past HB1.out)).mono ?_
    rintro e u ⟨⟨i, e1, _⟩, hb⟩
    exact ⟨⟨i, e1⟩, hb⟩
  have HW1 : Hid (w.alloc (.cells C.toArray 80) = w1) := hw1.symm
  show Calls Tryz.prog 128 #[.agg (encW W).toArray, .pointer (some ⟨bs, 0, none⟩)] w _
  rw [← hC, ← hok]
  generalize W.k = j at *
  subst hw1
  clear hmine hC hW hs h hok HW1
  go_enter Tryz.func128, Tryz.ntmps128
  go_wp2_with (first | ((with_reducible show wpList _ _ _ (Oper.mk (some 9) _ _ _ _ _ :: _) _ _); refine wpList_load_keyD 9 (by rfl) (by rfl) _ (by rfl) w.heap.size 0 (by rfl) j K1.out F1.out ?_) | (go_at_call 102; refine CH.out.mono ?_; rintro e w2 ⟨⟨i, rfl⟩, hb2⟩; have HB2 : Hid (Below w.heap.size w w2) := HB1.out.trans (hb2.mono HB1.out.size); clear hb2))
  go_ret
  exact ⟨rfl, HB2.out⟩
/-- What the rounds of IndexFunc hold. -/
structure IdxSh (w u : World) (P : Wrt → Bool) (l : List Wrt) (n : Nat) : Prop where
  below : Below w.heap.size w u
  none : ∀ W ∈ l.take n, P W = false
set_option maxHeartbeats 2000000 in
theorem pindexh_any (a : Option Addr) (N cap : Nat) (l : List Wrt) (P : Wrt → Bool) (bs : Nat) (w : World) (hl : l.length = N) (hc : N ≤ cap) (hN : N ≤ 1000000) (hat : WrtsAt w a l)
    (hcc : ∀ W ∈ l, ∀ u, Below w.heap.size w u → Calls Tryz.prog 128 #[wv W, .pointer (some ⟨bs, 0, none⟩)] u fun e w' => e = .returned (.bool (P W)) ∧ Below u.heap.size u w') :
    Calls Tryz.prog 124 #[.slice a N cap, .func (.func 128) #[] #[.pointer (some ⟨bs, 0, none⟩)]] w fun e w' => (∃ i : Int, e = .returned (.int .i64 i) ∧ -1 ≤ i ∧ i ≤ 1000000 ∧ (0 ≤ i ↔ l.any P = true)) ∧ Below w.heap.size w w' := by
  have HL : Hid (l.length = N) := hl
  have HA : Hid (WrtsAt w a l) := hat
  have HC : Hid (∀ W ∈ l, ∀ u, Below w.heap.size w u → Calls Tryz.prog 128 #[wv W, .pointer (some ⟨bs, 0, none⟩)] u fun e w' => e = .returned (.bool (P W)) ∧ Below u.heap.size u w') := hcc
  clear hl hat hcc
  go_enter Tryz.func124, Tryz.ntmps124
  go_wp2
  go_loopw [8] (fun i wr => ∃ n : Nat, n ≤ N ∧ i = .int .i64 n ∧ Hid (IdxSh w wr P l n)) (fun i _ => N - (intOf i).toNat)
  case atStart => exact ⟨0, Nat.zero_le _, rfl, ⟨Below.refl _ _, fun W hW => by simp at hW⟩⟩
  case round =>
    obtain ⟨n, hn, rfl, HS⟩ := hrel
    have hn0 : (0 : Int) ≤ (n : Int) := by omega
    by_cases hlt : n < N
    · have h1 : (n : Int) < (N : Int) := by omega
      obtain ⟨W, hW⟩ : ∃ W, l[n]? = some W := ⟨_, List.getElem?_eq_getElem (by rw [HL.out]; exact hlt)⟩
      obtain ⟨b, o, rfl, hwa, hwo⟩ := (HA.out.past (w' := wr) HS.out.below).wrt hW
      have HWA : Hid (WrtAt wr b (o + n * 18) W) := hwa
      have HT : Hid (l.take (n + 1) = l.take n ++ [W]) := by show _ = _; rw [List.take_add_one, hW]; rfl
      have HWM : Hid (W ∈ l) := List.mem_of_getElem? hW
      have KW : Hid (Ky W.k) := hwo.key
      have CG0 := HC.out W HWM.out wr HS.out.below
      obtain ⟨pw, hpw⟩ : ∃ x, x = P W := ⟨_, rfl⟩
      have HPW : Hid (pw = P W) := hpw
      rw [← hpw] at CG0
      have CG : Hid (Calls Tryz.prog 128 #[wv W, .pointer (some ⟨bs, 0, none⟩)] wr fun e w' => e = .returned (.bool pw) ∧ Below wr.heap.size wr w') := CG0
      clear hwa hwo hW CG0 hpw
      cases pw with
      | true =>
        go_wp2_with (first | (have hgo := HWA.out; clear hgo; refine wpList_load_wrt 15 (by rfl) (by rfl) _ (by rfl) b (o + n * 18) (by rfl) W KW.out HWA.out ?_) | (go_at_call 128; refine CG.out.mono ?_; rintro e w3 ⟨rfl, hb3⟩; have H3 : Hid (Below w.heap.size w w3) := HS.out.below.trans (hb3.mono HS.out.below.size); clear hb3))
        go_ret
        refine ⟨⟨(n : Int), rfl, by omega, by omega, ?_⟩, H3.out⟩
        exact ⟨fun _ => List.any_eq_true.2 ⟨W, HWM.out, HPW.out.symm⟩, fun _ => hn0⟩
      | false =>
        go_wp2_with (first | (have hgo := HWA.out; clear hgo; refine wpList_load_wrt 15 (by rfl) (by rfl) _ (by rfl) b (o + n * 18) (by rfl) W KW.out HWA.out ?_) | (go_at_call 128; refine CG.out.mono ?_; rintro e w3 ⟨rfl, hb3⟩; have H3 : Hid (IdxSh w w3 P l (n + 1)) := ⟨HS.out.below.trans (hb3.mono HS.out.below.size), fun V hV => by rw [HT.out] at hV; rcases List.mem_append.1 hV with e | e; exact HS.out.none V e; simp at e; rw [e]; exact HPW.out.symm⟩; clear hb3))
        go_roundw
        case rel => exact ⟨n + 1, by omega, by go_num, H3⟩
        case measure => simp [intOf]; omega
    · obtain rfl : n = N := by omega
      have HT : Hid (l.take n = l) := List.take_of_length_le (by rw [HL.out]; exact Nat.le_refl _)
      go_wp2
      go_ret
      refine ⟨⟨-1, rfl, by omega, by omega, fun e => by omega, fun e => ?_⟩, HS.out.below⟩
      obtain ⟨W, hW, e2⟩ := List.any_eq_true.1 e
      rw [HS.out.none W (by rw [HT.out]; exact hW)] at e2
      cases e2
theorem pconth_any (a : Option Addr) (N cap : Nat) (l : List Wrt) (P : Wrt → Bool) (bs : Nat) (w : World) (hl : l.length = N) (hc : N ≤ cap) (hN : N ≤ 1000000) (hat : WrtsAt w a l)
    (hcc : ∀ W ∈ l, ∀ u, Below w.heap.size w u → Calls Tryz.prog 128 #[wv W, .pointer (some ⟨bs, 0, none⟩)] u fun e w' => e = .returned (.bool (P W)) ∧ Below u.heap.size u w') :
    Calls Tryz.prog 83 #[.slice a N cap, .func (.func 128) #[] #[.pointer (some ⟨bs, 0, none⟩)]] w fun e w' => e = .returned (.bool (l.any P)) ∧ Below w.heap.size w w' := by
  have CI : Hid (Calls Tryz.prog 124 #[.slice a N cap, .func (.func 128) #[] #[.pointer (some ⟨bs, 0, none⟩)]] w fun e w' => (∃ i : Int, e = .returned (.int .i64 i) ∧ -1 ≤ i ∧ i ≤ 1000000 ∧ (0 ≤ i ↔ l.any P = true)) ∧ Below w.heap.size w w') := pindexh_any a N cap l P bs w hl hc hN hat hcc
  obtain ⟨R, hR⟩ : ∃ R, R = l.any P := ⟨_, rfl⟩
  rw [← hR] at CI ⊢
  clear hl hat hcc hR
  go_enter Tryz.func83, Tryz.ntmps83
  go_wp2_with (go_at_call 124; refine CI.out.mono ?_; rintro e w1 ⟨⟨i, rfl, hi1, hi2, hi3⟩, hb1⟩; have HI : Hid (0 ≤ i ↔ R = true) := hi3; have HB : Hid (Below w.heap.size w w1) := hb1; clear hi3 hb1)
  go_ret
  refine ⟨?_, HB.out⟩
  by_cases h : 0 ≤ i
  · rw [HI.out.1 h]; simp [h]
  · have : R = false := by
      cases hR : R with
      | false => rfl
      | true => exact absurd (HI.out.2 hR) h
    rw [this]; simp [h]
theorem box_cellP (w : World) (v : Value) (T : TypeId) : (w.alloc (.cells #[v] T)).cell? ⟨w.heap.size, 0, none⟩ = some v := by rw [World.cell?_alloc_new]; rfl
theorem held_any {M : List EntM} {l : List Wrt} : heldT (ents M) l = l.any (fun W => (holdM M W.k).isSome) := by
  unfold heldT
  congr 1
  funext W
  rw [← holdM_e, Option.isSome_map]
theorem panyheld_any (p : Nat) (M : List EntM) (X : Foot) (a : Option Addr) (N cap : Nat) (l : List Wrt) (w : World) (h : PTab w p M X) (hl : l.length = N) (hc : N ≤ cap) (hN : N ≤ 1000000) (hat : WrtsAt w a l) :
    Calls Tryz.prog 90 #[.pointer (some ⟨p, 0, none⟩), .slice a N cap] w fun e w' => e = .returned (.bool (heldT (ents M) l)) ∧ Below w.heap.size w w' := by
  have HB : Hid (Below w.heap.size w (w.alloc (.cells #[.pointer (some ⟨p, 0, none⟩)] 85))) := (Below.refl _ _).alloc (Nat.le_refl _) _
  have k0 := box_cellP w (.pointer (some ⟨p, 0, none⟩)) 85
  have CC : Hid (Calls Tryz.prog 83 #[.slice a N cap, .func (.func 128) #[] #[.pointer (some ⟨w.heap.size, 0, none⟩)]] (w.alloc (.cells #[.pointer (some ⟨p, 0, none⟩)] 85)) fun e w' => e = .returned (.bool (heldT (ents M) l)) ∧ Below (w.alloc (.cells #[.pointer (some ⟨p, 0, none⟩)] 85)).heap.size (w.alloc (.cells #[.pointer (some ⟨p, 0, none⟩)] 85)) w') := by
    rw [held_any]
    refine pconth_any a N cap l (fun W => (holdM M W.k).isSome) w.heap.size _ hl hc hN (hat.past HB.out) (fun W hW u hb => ?_)
    exact pclh_any p M X W (hat.oks W hW) _ u ((h.past HB.out).past hb) ((hb.cell (p := ⟨w.heap.size, 0, none⟩) (by simp)).trans k0)
  generalize heldT (ents M) l = R at *
  clear h hat hl k0
  go_enter Tryz.func90, Tryz.ntmps90
  go_wp2_with (go_at_call 83; refine CC.out.mono ?_; rintro e w2 ⟨rfl, hb2⟩; have HB2 : Hid (Below w.heap.size w w2) := HB.out.trans (hb2.mono HB.out.size); clear hb2)
  go_ret
  exact ⟨rfl, HB2.out⟩
end Go.Proofs.YtileidbdmpeciaaGreat
