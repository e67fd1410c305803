/-
  What the landed route answers: Cover.
-/
import Derived.Test.YtdbgkbgodnknnaaRouC5
namespace Go.Proofs.Ytdbgkbgodnknnaa
open Go.RowKit
set_option linter.unusedVariables false
set_option linter.unusedSimpArgs false

/-- Two keys in boxes. -/
theorem boxes2R (w : World) {a b : List Int} (ha : Ky a) (hb : Ky b) (u : World) (hu : Below ((w.alloc (.cells (kcs a) 28)).alloc (.cells (kcs b) 28)).heap.size ((w.alloc (.cells (kcs a) 28)).alloc (.cells (kcs b) 28)) u) : KeyAt u w.heap.size 0 a ∧ KeyAt u (w.heap.size + 1) 0 b := by
  have h1 : KeyAt ((w.alloc (.cells (kcs a) 28)).alloc (.cells (kcs b) 28)) w.heap.size 0 a := (KeyAt.made w 28 a ha).alloc _
  have h2 := KeyAt.made (w.alloc (.cells (kcs a) 28)) 28 b hb
  rw [World.size_alloc] at h2
  exact ⟨h1.past hu, h2.past hu⟩
set_option maxHeartbeats 8000000 in
set_option maxRecDepth 8000 in
theorem rocover_any {q : Nat} {P : List (List Int)} (a b : List Int) (ha : Ky a) (hb : Ky b) (w : World) (h : RtAt w q P) (hf : P.length ≤ 1000) :
    Calls Try.prog 14 #[.pointer (some ⟨q, 0, none⟩), kv a, kv b] w fun e w' => ∃ ra m rc, e = .returned (.slice ra m rc) ∧ (coverR P a b).length = m ∧ m ≤ rc ∧ NumsR w' ra (coverR P a b) ∧ Below w.heap.size w w' := by
  obtain ⟨N, hN⟩ : ∃ n, P.length = n := ⟨_, rfl⟩
  have HN : Hid (P.length = N) := hN
  have KA : Hid (Ky a) := ha
  have KB : Hid (Ky b) := hb
  obtain ⟨W0, hW0⟩ : ∃ u, u = (w.alloc (.cells (kcs a) 28)).alloc (.cells (kcs b) 28) := ⟨_, rfl⟩
  have HW0 : Hid ((w.alloc (.cells (kcs a) 28)).alloc (.cells (kcs b) 28) = W0) := hW0.symm
  have HB : Hid (Below w.heap.size w W0) := by rw [hW0]; exact ((Below.refl _ _).alloc (Nat.le_refl _) _).alloc (by simp) _
  have HK : Hid (∀ u, Below W0.heap.size W0 u → KeyAt u w.heap.size 0 a ∧ KeyAt u (w.heap.size + 1) 0 b) := fun u hu => by rw [hW0] at hu; exact boxes2R w ha hb u hu
  obtain ⟨z, hz⟩ : ∃ x, x = decide (b = zeroK) := ⟨_, rfl⟩
  obtain ⟨r, hr⟩ : ∃ x, x = lexC b a := ⟨_, rfl⟩
  have CO : Hid (∀ u, Calls Try.prog 32 #[kv b] u fun e w' => e = .returned (.bool z) ∧ Below u.heap.size u w') := fun u => by rw [hz]; exact roopen_any b hb u
  have CC : Hid (∀ u, Calls Try.prog 31 #[kv b, kv a] u fun e w' => e = .returned (.int .i64 r) ∧ Below u.heap.size u w') := fun u => by rw [hr]; exact kcmp_any b a hb ha u
  have HT : Hid (∀ u, Below W0.heap.size W0 u → RtAt u q P) := fun u hu => h.past (HB.out.trans (hu.mono HB.out.size))
  have CN : Hid (∀ u, Below W0.heap.size W0 u → Calls Try.prog 18 #[.pointer (some ⟨q, 0, none⟩)] u fun e w' => e = .returned (.int .i64 ((N : Int) + 1)) ∧ w' = u) := fun u hu => by
    have := ronodes_any u (HT.out u hu) (by omega)
    rw [hN] at this
    exact this
  have CE : Hid (∀ i : Nat, i ≤ N → ∀ u, Below W0.heap.size W0 u → Calls Try.prog 33 #[.pointer (some ⟨q, 0, none⟩), .int .i64 i, kv a] u fun e w' => e = .returned (.bool (aboveR P a i)) ∧ Below u.heap.size u w') := fun i hi u hu => roabove_any i a ha u (HT.out u hu) (by omega) (by omega)
  have CB : Hid (∀ i : Nat, i ≤ N → ∀ u, Below W0.heap.size W0 u → Calls Try.prog 34 #[.pointer (some ⟨q, 0, none⟩), .int .i64 i, kv b] u fun e w' => e = .returned (.bool (belowR P b i)) ∧ Below u.heap.size u w') := fun i hi u hu => robelow_any i b hb u (HT.out u hu) (by omega) (by omega)
  have HSM : Hid (someR a b = (z || decide (0 < r))) := by show _ = _; unfold someR; rw [hz, hr]
  rw [hN] at hf
  clear h ha hb hN hW0 hz hr
  by_cases hno : z = false ∧ r ≤ 0
  · obtain ⟨rfl, hr0⟩ := hno
    have HE : Hid (coverR P a b = []) := by show _ = _; unfold coverR; rw [HSM.out, if_neg (by simp; omega)]
    clear HSM
    go_enter Try.func14, Try.ntmps14
    go_wp2_with (first
      | ((with_reducible show wpList _ _ _ (Oper.mk (some 9) _ _ _ _ _ :: _) _ _); rw [HW0.out]; refine wpList_load_keyD 9 (by rfl) (by rfl) _ (by rfl) (w.heap.size + 1) 0 (by rfl) b KB.out (HK.out _ (Below.refl _ _)).2 ?_)
      | (go_at_call 32; refine (CO.out _).mono ?_; rintro e w1 ⟨rfl, hb1⟩; have H1 : Hid (Below W0.heap.size W0 w1) := hb1; clear hb1)
      | ((with_reducible show wpList _ _ _ (Oper.mk (some 13) _ _ _ _ _ :: _) _ _); refine wpList_load_keyD 13 (by rfl) (by rfl) _ (by rfl) (w.heap.size + 1) 0 (by rfl) b KB.out (HK.out _ H1.out).2 ?_)
      | ((with_reducible show wpList _ _ _ (Oper.mk (some 14) _ _ _ _ _ :: _) _ _); refine wpList_load_keyD 14 (by rfl) (by rfl) _ (by rfl) w.heap.size 0 (by rfl) a KA.out (HK.out _ H1.out).1 ?_)
      | (go_at_call 31; refine (CC.out _).mono ?_; rintro e w2 ⟨rfl, hb2⟩; have H2 : Hid (Below W0.heap.size W0 w2) := H1.out.trans (hb2.mono H1.out.size); clear hb2))
    go_ret
    refine ⟨none, 0, 0, rfl, by rw [HE.out]; rfl, Nat.le_refl _, ?_, HB.out.trans (H2.out.mono HB.out.size)⟩
    rw [HE.out]
    intro i x hx
    simp at hx
  have HE : Hid (coverR P a b = numsR (fun i => aboveR P a i && belowR P b i) (N + 1)) := by
    show _ = _
    unfold coverR
    rw [HSM.out, if_pos, HN.out]
    cases z with
    | true => rfl
    | false =>
      have : 0 < r := by
        rcases Int.lt_or_le 0 r with h' | h'
        · exact h'
        · exact absurd ⟨rfl, h'⟩ hno
      simp [this]
  clear HSM
  obtain ⟨Q, hQ⟩ : ∃ Q : Nat → Bool, Q = fun i => aboveR P a i && belowR P b i := ⟨_, rfl⟩
  have HQ : Hid (∀ i, Q i = (aboveR P a i && belowR P b i)) := fun i => by rw [hQ]
  rw [← hQ] at HE
  clear hQ
  cases z with
  | true =>
    go_enter Try.func14, Try.ntmps14
    go_wp2_with (first
      | ((with_reducible show wpList _ _ _ (Oper.mk (some 9) _ _ _ _ _ :: _) _ _); rw [HW0.out]; refine wpList_load_keyD 9 (by rfl) (by rfl) _ (by rfl) (w.heap.size + 1) 0 (by rfl) b KB.out (HK.out _ (Below.refl _ _)).2 ?_)
      | (go_at_call 32; refine (CO.out _).mono ?_; rintro e w1 ⟨rfl, hb1⟩; have H1 : Hid (Below W0.heap.size W0 w1) := hb1; clear hb1)
      | (go_at_call 18; refine (CN.out _ H1.out).mono ?_; rintro e wn ⟨rfl, hwn⟩; obtain rfl := hwn.symm; clear hwn))
    go_loopw [7, 20] (fun rv iv wr => ∃ (i m : Nat) (ra : Option Addr) (rc : Nat), iv = .int .i64 i ∧ rv = .slice ra m rc ∧ i ≤ N + 1 ∧ Hid (GrowR w1 wr Q i ra m rc)) (fun _ iv _ => N + 1 - (intOf iv).toNat)
    case atStart => exact ⟨0, 0, none, 0, rfl, rfl, Nat.zero_le _, GrowR.start w1 _⟩
    case round =>
      obtain ⟨i, m, ra, rc, rfl, rfl, hi, HO⟩ := hrel
      have hi0 : (0 : Int) ≤ (i : Int) := by omega
      by_cases hlt : i < N + 1
      · have h1 : (i : Int) < (N : Int) + 1 := by omega
        have HBR : Hid (Below W0.heap.size W0 wr) := H1.out.trans (HO.out.own.below.mono H1.out.size)
        have hm1 : m + 1 ≤ 1000000 := by have := HO.out.few; omega
        obtain ⟨x, hx⟩ : ∃ x, x = aboveR P a i := ⟨_, rfl⟩
        obtain ⟨y, hy⟩ : ∃ y, y = belowR P b i := ⟨_, rfl⟩
        have HQI : Hid (Q i = (x && y)) := by rw [hx, hy]; exact HQ.out i
        have CE1 : Hid (∀ u, Below W0.heap.size W0 u → Calls Try.prog 33 #[.pointer (some ⟨q, 0, none⟩), .int .i64 i, kv a] u fun e w' => e = .returned (.bool x) ∧ Below u.heap.size u w') := by rw [hx]; exact CE.out i (by omega)
        have CB1 : Hid (∀ u, Below W0.heap.size W0 u → Calls Try.prog 34 #[.pointer (some ⟨q, 0, none⟩), .int .i64 i, kv b] u fun e w' => e = .returned (.bool y) ∧ Below u.heap.size u w') := by rw [hy]; exact CB.out i (by omega)
        clear hx hy
        cases x with
        | false =>
          go_wp2_with (first
            | ((with_reducible show wpList _ _ _ (Oper.mk (some 25) _ _ _ _ _ :: _) _ _); refine wpList_load_keyD 25 (by rfl) (by rfl) _ (by rfl) w.heap.size 0 (by rfl) a KA.out (HK.out _ HBR.out).1 ?_)
            | (go_at_call 33; refine (CE1.out _ HBR.out).mono ?_; rintro e w4 ⟨rfl, hb4⟩; have HO4 : Hid (GrowR w1 w4 Q i ra m rc) := HO.out.past hb4; clear hb4))
          go_roundw
          case rel => exact ⟨i + 1, m, ra, rc, by go_num, rfl, by omega, HO4.out.skip HQI.out⟩
          case measure => simp [intOf]; omega
        | true =>
          cases y with
          | false =>
            go_wp2_with (first
              | ((with_reducible show wpList _ _ _ (Oper.mk (some 25) _ _ _ _ _ :: _) _ _); refine wpList_load_keyD 25 (by rfl) (by rfl) _ (by rfl) w.heap.size 0 (by rfl) a KA.out (HK.out _ HBR.out).1 ?_)
              | (go_at_call 33; refine (CE1.out _ HBR.out).mono ?_; rintro e w4 ⟨rfl, hb4⟩; have HB4 : Hid (Below W0.heap.size W0 w4) := HBR.out.trans (hb4.mono HBR.out.size); have HO4 : Hid (GrowR w1 w4 Q i ra m rc) := HO.out.past hb4; clear hb4)
              | ((with_reducible show wpList _ _ _ (Oper.mk (some 30) _ _ _ _ _ :: _) _ _); refine wpList_load_keyD 30 (by rfl) (by rfl) _ (by rfl) (w.heap.size + 1) 0 (by rfl) b KB.out (HK.out _ HB4.out).2 ?_)
              | (go_at_call 34; refine (CB1.out _ HB4.out).mono ?_; rintro e w5 ⟨rfl, hb5⟩; have HO5 : Hid (GrowR w1 w5 Q i ra m rc) := HO4.out.past hb5; clear hb5))
            go_roundw
            case rel => exact ⟨i + 1, m, ra, rc, by go_num, rfl, by omega, HO5.out.skip HQI.out⟩
            case measure => simp [intOf]; omega
          | true =>
            have HNX : Hid _ := nums_nextR Q i HQI.out
            go_wp2_with (first
              | ((with_reducible show wpList _ _ _ (Oper.mk (some 25) _ _ _ _ _ :: _) _ _); refine wpList_load_keyD 25 (by rfl) (by rfl) _ (by rfl) w.heap.size 0 (by rfl) a KA.out (HK.out _ HBR.out).1 ?_)
              | (go_at_call 33; refine (CE1.out _ HBR.out).mono ?_; rintro e w4 ⟨rfl, hb4⟩; have HB4 : Hid (Below W0.heap.size W0 w4) := HBR.out.trans (hb4.mono HBR.out.size); have HO4 : Hid (GrowR w1 w4 Q i ra m rc) := HO.out.past hb4; clear hb4)
              | ((with_reducible show wpList _ _ _ (Oper.mk (some 30) _ _ _ _ _ :: _) _ _); refine wpList_load_keyD 30 (by rfl) (by rfl) _ (by rfl) (w.heap.size + 1) 0 (by rfl) b KB.out (HK.out _ HB4.out).2 ?_)
              | (go_at_call 34; refine (CB1.out _ HB4.out).mono ?_; rintro e w5 ⟨rfl, hb5⟩; have HO5 : Hid (GrowR w1 w5 Q i ra m rc) := HO4.out.past hb5; clear hb5)
              | (have hgo := HO5.out; clear hgo; at_builtin; refine wpList_own nums_elR (w0 := w1) rfl (.tmp 33) (.tmp 35) rfl _ m _ [.int .i64 (i : Int)] rfl (HO5.out.own.alloc _) _ _ _ rfl rfl (lies_made _ _ _) (by intro u hu; simp at hu; rw [hu]; rfl) (fun h => by cases h) (m + 1) rfl hm1 ((numsR Q (i + 1)).map (Value.int .i64)) HNX.out.symm ?_; intro a6 c6 w6 h1 h2; have O6 : Hid (GrowR w1 w6 Q (i + 1) a6 (m + 1) c6) := GrowR.more HQI.out HO5.out.len h1; clear h1 h2))
            go_roundw
            case rel => exact ⟨i + 1, m + 1, a6, c6, by go_num, rfl, by omega, O6⟩
            case measure => simp [intOf]; omega
      · obtain rfl : i = N + 1 := by omega
        have hi1 : ¬ ((N : Int) + 1 < (N : Int) + 1) := by omega
        go_wp2
        go_ret
        have hd := HO.out.done
        have hlen := HO.out.len
        have hbel := HO.out.own.below
        rw [← HE.out] at hd hlen
        exact ⟨ra, m, rc, rfl, hlen, hd.2, hd.1, HB.out.trans (H1.out.trans (hbel.mono H1.out.size) |>.mono HB.out.size)⟩
  | false =>
    have hr0 : ¬ r ≤ 0 := fun h => hno ⟨rfl, h⟩
    have hr1 : decide (r ≤ 0) = false := decide_eq_false hr0
    clear hno
    go_enter Try.func14, Try.ntmps14
    go_wp2_with (first
      | ((with_reducible show wpList _ _ _ (Oper.mk (some 9) _ _ _ _ _ :: _) _ _); rw [HW0.out]; refine wpList_load_keyD 9 (by rfl) (by rfl) _ (by rfl) (w.heap.size + 1) 0 (by rfl) b KB.out (HK.out _ (Below.refl _ _)).2 ?_)
      | (go_at_call 32; refine (CO.out _).mono ?_; rintro e w1 ⟨rfl, hb1⟩; have H1 : Hid (Below W0.heap.size W0 w1) := hb1; clear hb1)
      | ((with_reducible show wpList _ _ _ (Oper.mk (some 13) _ _ _ _ _ :: _) _ _); refine wpList_load_keyD 13 (by rfl) (by rfl) _ (by rfl) (w.heap.size + 1) 0 (by rfl) b KB.out (HK.out _ H1.out).2 ?_)
      | ((with_reducible show wpList _ _ _ (Oper.mk (some 14) _ _ _ _ _ :: _) _ _); refine wpList_load_keyD 14 (by rfl) (by rfl) _ (by rfl) w.heap.size 0 (by rfl) a KA.out (HK.out _ H1.out).1 ?_)
      | (go_at_call 31; refine (CC.out _).mono ?_; rintro e w2 ⟨rfl, hb2⟩; have H2 : Hid (Below W0.heap.size W0 w2) := H1.out.trans (hb2.mono H1.out.size); clear hb2)
      | (go_at_call 18; refine (CN.out _ H2.out).mono ?_; rintro e wn ⟨rfl, hwn⟩; obtain rfl := hwn.symm; clear hwn))
    go_loopw [7, 20] (fun rv iv wr => ∃ (i m : Nat) (ra : Option Addr) (rc : Nat), iv = .int .i64 i ∧ rv = .slice ra m rc ∧ i ≤ N + 1 ∧ Hid (GrowR w2 wr Q i ra m rc)) (fun _ iv _ => N + 1 - (intOf iv).toNat)
    case atStart => exact ⟨0, 0, none, 0, rfl, rfl, Nat.zero_le _, GrowR.start w2 _⟩
    case round =>
      obtain ⟨i, m, ra, rc, rfl, rfl, hi, HO⟩ := hrel
      have hi0 : (0 : Int) ≤ (i : Int) := by omega
      by_cases hlt : i < N + 1
      · have h1 : (i : Int) < (N : Int) + 1 := by omega
        have HBR : Hid (Below W0.heap.size W0 wr) := H2.out.trans (HO.out.own.below.mono H2.out.size)
        have hm1 : m + 1 ≤ 1000000 := by have := HO.out.few; omega
        obtain ⟨x, hx⟩ : ∃ x, x = aboveR P a i := ⟨_, rfl⟩
        obtain ⟨y, hy⟩ : ∃ y, y = belowR P b i := ⟨_, rfl⟩
        have HQI : Hid (Q i = (x && y)) := by rw [hx, hy]; exact HQ.out i
        have CE1 : Hid (∀ u, Below W0.heap.size W0 u → Calls Try.prog 33 #[.pointer (some ⟨q, 0, none⟩), .int .i64 i, kv a] u fun e w' => e = .returned (.bool x) ∧ Below u.heap.size u w') := by rw [hx]; exact CE.out i (by omega)
        have CB1 : Hid (∀ u, Below W0.heap.size W0 u → Calls Try.prog 34 #[.pointer (some ⟨q, 0, none⟩), .int .i64 i, kv b] u fun e w' => e = .returned (.bool y) ∧ Below u.heap.size u w') := by rw [hy]; exact CB.out i (by omega)
        clear hx hy
        cases x with
        | false =>
          go_wp2_with (first
            | ((with_reducible show wpList _ _ _ (Oper.mk (some 25) _ _ _ _ _ :: _) _ _); refine wpList_load_keyD 25 (by rfl) (by rfl) _ (by rfl) w.heap.size 0 (by rfl) a KA.out (HK.out _ HBR.out).1 ?_)
            | (go_at_call 33; refine (CE1.out _ HBR.out).mono ?_; rintro e w4 ⟨rfl, hb4⟩; have HO4 : Hid (GrowR w2 w4 Q i ra m rc) := HO.out.past hb4; clear hb4))
          go_roundw
          case rel => exact ⟨i + 1, m, ra, rc, by go_num, rfl, by omega, HO4.out.skip HQI.out⟩
          case measure => simp [intOf]; omega
        | true =>
          cases y with
          | false =>
            go_wp2_with (first
              | ((with_reducible show wpList _ _ _ (Oper.mk (some 25) _ _ _ _ _ :: _) _ _); refine wpList_load_keyD 25 (by rfl) (by rfl) _ (by rfl) w.heap.size 0 (by rfl) a KA.out (HK.out _ HBR.out).1 ?_)
              | (go_at_call 33; refine (CE1.out _ HBR.out).mono ?_; rintro e w4 ⟨rfl, hb4⟩; have HB4 : Hid (Below W0.heap.size W0 w4) := HBR.out.trans (hb4.mono HBR.out.size); have HO4 : Hid (GrowR w2 w4 Q i ra m rc) := HO.out.past hb4; clear hb4)
              | ((with_reducible show wpList _ _ _ (Oper.mk (some 30) _ _ _ _ _ :: _) _ _); refine wpList_load_keyD 30 (by rfl) (by rfl) _ (by rfl) (w.heap.size + 1) 0 (by rfl) b KB.out (HK.out _ HB4.out).2 ?_)
              | (go_at_call 34; refine (CB1.out _ HB4.out).mono ?_; rintro e w5 ⟨rfl, hb5⟩; have HO5 : Hid (GrowR w2 w5 Q i ra m rc) := HO4.out.past hb5; clear hb5))
            go_roundw
            case rel => exact ⟨i + 1, m, ra, rc, by go_num, rfl, by omega, HO5.out.skip HQI.out⟩
            case measure => simp [intOf]; omega
          | true =>
            have HNX : Hid _ := nums_nextR Q i HQI.out
            go_wp2_with (first
              | ((with_reducible show wpList _ _ _ (Oper.mk (some 25) _ _ _ _ _ :: _) _ _); refine wpList_load_keyD 25 (by rfl) (by rfl) _ (by rfl) w.heap.size 0 (by rfl) a KA.out (HK.out _ HBR.out).1 ?_)
              | (go_at_call 33; refine (CE1.out _ HBR.out).mono ?_; rintro e w4 ⟨rfl, hb4⟩; have HB4 : Hid (Below W0.heap.size W0 w4) := HBR.out.trans (hb4.mono HBR.out.size); have HO4 : Hid (GrowR w2 w4 Q i ra m rc) := HO.out.past hb4; clear hb4)
              | ((with_reducible show wpList _ _ _ (Oper.mk (some 30) _ _ _ _ _ :: _) _ _); refine wpList_load_keyD 30 (by rfl) (by rfl) _ (by rfl) (w.heap.size + 1) 0 (by rfl) b KB.out (HK.out _ HB4.out).2 ?_)
              | (go_at_call 34; refine (CB1.out _ HB4.out).mono ?_; rintro e w5 ⟨rfl, hb5⟩; have HO5 : Hid (GrowR w2 w5 Q i ra m rc) := HO4.out.past hb5; clear hb5)
              | (have hgo := HO5.out; clear hgo; at_builtin; refine wpList_own nums_elR (w0 := w2) rfl (.tmp 33) (.tmp 35) rfl _ m _ [.int .i64 (i : Int)] rfl (HO5.out.own.alloc _) _ _ _ rfl rfl (lies_made _ _ _) (by intro u hu; simp at hu; rw [hu]; rfl) (fun h => by cases h) (m + 1) rfl hm1 ((numsR Q (i + 1)).map (Value.int .i64)) HNX.out.symm ?_; intro a6 c6 w6 h1 h2; have O6 : Hid (GrowR w2 w6 Q (i + 1) a6 (m + 1) c6) := GrowR.more HQI.out HO5.out.len h1; clear h1 h2))
            go_roundw
            case rel => exact ⟨i + 1, m + 1, a6, c6, by go_num, rfl, by omega, O6⟩
            case measure => simp [intOf]; omega
      · obtain rfl : i = N + 1 := by omega
        have hi1 : ¬ ((N : Int) + 1 < (N : Int) + 1) := by omega
        go_wp2
        go_ret
        have hd := HO.out.done
        have hlen := HO.out.len
        have hbel := HO.out.own.below
        rw [← HE.out] at hd hlen
        exact ⟨ra, m, rc, rfl, hlen, hd.2, hd.1, HB.out.trans (H2.out.trans (hbel.mono H2.out.size) |>.mono HB.out.size)⟩
end Go.Proofs.Ytdbgkbgodnknnaa
