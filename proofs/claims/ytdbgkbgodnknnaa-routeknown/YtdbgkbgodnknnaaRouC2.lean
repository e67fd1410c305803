/-
  What the landed route answers: a list of keys copied, New, Nodes, Of.
-/
import Derived.Test.YtdbgkbgodnknnaaRouC1
import Derived.Deep.DeepCutAuto
namespace Go.Proofs.Ytdbgkbgodnknnaa
open Go.RowKit
set_option linter.unusedVariables false
set_option linter.unusedSimpArgs false

set_option maxHeartbeats 1000000 in
theorem roclone_any (a : Option Addr) (c N : Nat) (L : List (List Int)) (w : World) (hN : L.length = N) (hfew : N ≤ 1000) (hat : KeysAt w a L) (hn : a = none → c = 0) :
    Calls Try.prog 28 #[.slice a N c] w fun e w' => (∃ a' c', e = .returned (.slice a' N c') ∧ N ≤ c' ∧ KeysAt w' a' L) ∧ Below w.heap.size w w' := by
  have q : ∀ (w : World) (a : Option Addr) (n c n' c' : Nat), (binOp .eql 30 (.slice a n c) (.slice none n' c')).run Try.prog w = .ok (.bool a.isNone) w := fun w a n c n' c' => Lib.run_eql_slice_nil w _ _ a n c n' c' Try.underlying30
  cases a with
  | none =>
    have hL := hat.nil rfl
    subst hL
    obtain rfl : N = 0 := hN.symm
    have HA : Hid (KeysAt w none []) := hat
    clear hat hN hn
    go_enter Try.func28, Try.ntmps28
    go_wp2
    go_ret
    exact ⟨⟨none, 0, rfl, Nat.le_refl _, HA.out⟩, Below.refl _ _⟩
  | some sa =>
    have HS : Hid (Lies (w.alloc (.cells #[] 28)) (some sa) (L.flatMap kc)) := hat.lies.past ((Below.refl _ _).alloc (Nat.le_refl _) _)
    have HO : Hid ((w.alloc (.cells #[] 28)).ownsRow w.heap.size 28 16 (.slice (some ⟨w.heap.size, 0, none⟩) 0 0) 0 []) := World.ownsRow_made w #[] 0 (Nat.le_refl _) (by unfold maxLen; omega) (by simp)
    have HB : Hid (Below w.heap.size w (w.alloc (.cells #[] 28))) := (Below.refl _ _).alloc (Nat.le_refl _) _
    have HL : Hid ((L.flatMap kc).length = N * 16) := by show _ = _; rw [flat_len L hat.kys.len, hN]
    have HZ : Hid (0 + N = N) := Nat.zero_add N
    have HK : Hid (Kys L) := hat.kys
    have HN : Hid (L.length = N) := hN
    have H1K : Hid (∀ u ∈ L.flatMap kc, u.oneCell' = true) := flat_one (fun k _ => kc_oneR k)
    clear hat hN hn
    go_enter Try.func28, Try.ntmps28
    go_wp2_with (at_builtin; refine wpList_append_els keyEl (w0 := w) rfl _ _ rfl HB.out _ 0 [] (L.flatMap kc) rfl HO.out _ N c rfl HL.out HS.out H1K.out (fun h => by cases h) (by omega) ?_; intro a' c' w' h1 h2 h3; rw [HZ.out, List.nil_append] at h1; have H1 : Hid (w'.ownsRow w.heap.size 28 16 (.slice a' N c') N (L.flatMap kc)) := h1; have H3 : Hid (Below w.heap.size w w') := h3; clear h1 h2 h3; rw [HZ.out])
    go_wp2
    go_ret
    obtain ⟨a2, c2, e, h4, h5⟩ := keys_of_own H1.out HN.out HK.out
    injection e with e1 _ e2
    subst e1
    subst e2
    exact ⟨⟨a', c', rfl, h4, h5⟩, H3.out⟩
/-- What New answers. -/
structure NewRt (P : List (List Int)) (e : Ending) (w' : World) : Prop where
  yes : mayR P = true → ∃ q, e = .returned (.tuple #[.pointer (some ⟨q, 0, none⟩), .int .i64 0]) ∧ RtAt w' q P
  no : mayR P = false → e = .returned (.tuple #[.pointer none, .int .i64 1])
set_option maxHeartbeats 2000000 in
theorem ronew_any (a : Option Addr) (c N : Nat) (P : List (List Int)) (w : World) (hl : P.length = N) (hc : N ≤ c) (hat : KeysAt w a P) (hn : a = none → c = 0) :
    Calls Try.prog 8 #[.slice a N c] w fun e w' => NewRt P e w' ∧ Below w.heap.size w w' := by
  by_cases h7 : 7 < N
  · have h7' : (7 : Int) < (N : Int) := by omega
    have HM : Hid (mayR P = false) := by show _ = _; unfold mayR; rw [decide_eq_false (by omega)]; rfl
    clear hl hat hn
    go_enter Try.func8, Try.ntmps8
    go_wp2
    go_returns
    exact ⟨⟨fun h => (by rw [HM.out] at h; cases h), fun _ => rfl⟩, Below.refl _ _⟩
  have h7' : ¬ (7 : Int) < (N : Int) := by omega
  have d7 : decide ((7 : Int) < (N : Int)) = false := decide_eq_false h7'
  obtain ⟨g, hg⟩ : ∃ x, x = P.all goodK := ⟨_, rfl⟩
  obtain ⟨r, hr⟩ : ∃ x, x = riseR P := ⟨_, rfl⟩
  have HM : Hid (mayR P = (g && r)) := by show _ = _; unfold mayR; rw [decide_eq_true (by omega), hg, hr]; rfl
  have CG : Hid (∀ u, Below w.heap.size w u → Calls Try.prog 26 #[.slice a N c] u fun e w' => e = .returned (.bool g) ∧ Below u.heap.size u w') := fun u hu => by rw [hg]; exact rogood_any a N c P u hl hc (by omega) (hat.past hu)
  have CR : Hid (∀ u, Below w.heap.size w u → Calls Try.prog 27 #[.slice a N c] u fun e w' => e = .returned (.bool r) ∧ Below u.heap.size u w') := fun u hu => by rw [hr]; exact rorise_any a N c P u hl hc (by omega) (hat.past hu)
  have CC : Hid (∀ u, Below w.heap.size w u → Calls Try.prog 28 #[.slice a N c] u fun e w' => (∃ a' c', e = .returned (.slice a' N c') ∧ N ≤ c' ∧ KeysAt w' a' P) ∧ Below u.heap.size u w') := fun u hu => roclone_any a c N P u hl (by omega) (hat.past hu) hn
  have HL : Hid (P.length = N) := hl
  clear hl hat hn hg hr h7
  cases g with
  | false =>
    go_enter Try.func8, Try.ntmps8
    go_wp2_with (first | (go_at_call 26; refine (CG.out _ (Below.refl _ _)).mono ?_; rintro e w1 ⟨rfl, hb1⟩; have B1 : Hid (Below w.heap.size w w1) := hb1; clear hb1))
    go_returns
    exact ⟨⟨fun h => (by rw [HM.out] at h; cases h), fun _ => rfl⟩, B1.out⟩
  | true =>
    cases r with
    | false =>
      go_enter Try.func8, Try.ntmps8
      go_wp2_with (first | (go_at_call 27; refine (CR.out _ B1.out).mono ?_; rintro e w2 ⟨rfl, hb2⟩; have B2 : Hid (Below w.heap.size w w2) := B1.out.trans (hb2.mono B1.out.size); clear hb2) | (go_at_call 26; refine (CG.out _ (Below.refl _ _)).mono ?_; rintro e w1 ⟨rfl, hb1⟩; have B1 : Hid (Below w.heap.size w w1) := hb1; clear hb1))
      go_returns
      exact ⟨⟨fun h => (by rw [HM.out] at h; cases h), fun _ => rfl⟩, B2.out⟩
    | true =>
      go_enter Try.func8, Try.ntmps8
      go_wp2_with (first | (go_at_call 28; refine (CC.out _ B2.out).mono ?_; rintro e w3 ⟨⟨a', c', rfl, hc', hk'⟩, hb3⟩; have B3 : Hid (Below w.heap.size w w3) := B2.out.trans (hb3.mono B2.out.size); have HK3 : Hid (N ≤ c' ∧ KeysAt w3 a' P) := ⟨hc', hk'⟩; clear hb3 hc' hk') | (go_at_call 27; refine (CR.out _ B1.out).mono ?_; rintro e w2 ⟨rfl, hb2⟩; have B2 : Hid (Below w.heap.size w w2) := B1.out.trans (hb2.mono B1.out.size); clear hb2) | (go_at_call 26; refine (CG.out _ (Below.refl _ _)).mono ?_; rintro e w1 ⟨rfl, hb1⟩; have B1 : Hid (Below w.heap.size w w1) := hb1; clear hb1))
      go_returns
      have hL := HL.out
      have hK := HK3.out
      refine ⟨⟨fun _ => ⟨w3.heap.size, rfl, ?_⟩, fun h => (by rw [HM.out] at h; cases h)⟩, B3.out.alloc B3.out.size _⟩
      rw [← hL]
      exact RtAt.made hK.2 (by rw [hL]; exact hK.1) _
set_option maxHeartbeats 1000000 in
theorem ronodes_any {q : Nat} {P : List (List Int)} (w : World) (h : RtAt w q P) (hf : P.length ≤ 1000000) :
    Calls Try.prog 18 #[.pointer (some ⟨q, 0, none⟩)] w fun e w' => e = .returned (.int .i64 ((P.length : Int) + 1)) ∧ w' = w := by
  obtain ⟨N, hN⟩ : ∃ n, P.length = n := ⟨_, rfl⟩
  obtain ⟨a, c, hc, hcell, -, -⟩ := h.open hN
  have q0 := hcell w (Below.refl _ _)
  rw [hN] at hf ⊢
  have h0 : (0 : Int) ≤ (N : Int) := by omega
  have h1 : (N : Int) ≤ 1000000 := by omega
  clear hcell h hN
  go_enter Try.func18, Try.ntmps18
  go_wp2
  go_ret
  exact ⟨rfl, rfl⟩
/-- How many of the first n points are not above a key. -/
def upR (P : List (List Int)) (k : List Int) (n : Nat) : Nat := (P.take n).countP (fun p => decide (lexC p k ≤ 0))
theorem upR_next {P : List (List Int)} {k : List Int} {n : Nat} (h : n < P.length) : upR P k (n + 1) = upR P k n + if lexC (P.getD n []) k ≤ 0 then 1 else 0 := by
  have hp : P[n]? = some (P.getD n []) := by simp [List.getD, h]
  exact ofN_next hp k
theorem upR_all {P : List (List Int)} {k : List Int} {n : Nat} (h : P.length = n) : upR P k n = ofN P k := by
  unfold upR ofN
  rw [List.take_of_length_le (by omega)]
set_option maxHeartbeats 4000000 in
set_option maxRecDepth 4000 in
theorem roof_any {q : Nat} {P : List (List Int)} (k : List Int) (hk : Ky k) (w : World) (h : RtAt w q P) (hf : P.length ≤ 1000000) :
    Calls Try.prog 11 #[.pointer (some ⟨q, 0, none⟩), kv k] w fun e w' => e = .returned (.int .i64 (ofR P k)) ∧ Below w.heap.size w w' := by
  obtain ⟨N, hN⟩ : ∃ n, P.length = n := ⟨_, rfl⟩
  obtain ⟨a, c, hc, hcell, hkys, hkey⟩ := h.open hN
  have hfN : N ≤ 1000000 := by omega
  have HN : Hid (P.length = N) := hN
  have HK : Hid (Ky k) := hk
  obtain ⟨W0, hW0⟩ : ∃ u, u = w.alloc (.cells (kcs k) 28) := ⟨_, rfl⟩
  have HA : Hid (KeyAt W0 w.heap.size 0 k) := by rw [hW0]; exact KeyAt.made w 28 k hk
  have HB : Hid (Below w.heap.size w W0) := by rw [hW0]; exact (Below.refl _ _).alloc (Nat.le_refl _) _
  have HC : Hid (∀ u, Below W0.heap.size W0 u → u.cell? ⟨q, 0, none⟩ = some (.slice a N c)) := fun u hu => hcell u (HB.out.trans (hu.mono HB.out.size))
  have HKEY : Hid (∀ i, i < N → ∃ b o, a = some ⟨b, o, none⟩ ∧ (∀ u, Below W0.heap.size W0 u → KeyAt u b (o + i * 16) (P.getD i [])) ∧ Ky (P.getD i [])) := fun i hi => by
    obtain ⟨b, o, e, h1, h2⟩ := hkey i hi
    exact ⟨b, o, e, fun u hu => h1 u (HB.out.trans (hu.mono HB.out.size)), h2⟩
  obtain ⟨g, hg⟩ : ∃ x, x = goodK k := ⟨_, rfl⟩
  have CG : Hid (∀ u, Calls Try.prog 30 #[kv k] u fun e w' => e = .returned (.bool g) ∧ Below u.heap.size u w') := fun u => by rw [hg]; exact kgood_any k hk u
  have HR : Hid (ofR P k = if g = true then (ofN P k : Int) else -1) := by show _ = _; unfold ofR; rw [hg]
  have HW0 : Hid (w.alloc (.cells (kcs k) 28) = W0) := hW0.symm
  clear hk hW0 hcell hkys hkey h hf hN hg
  cases g with
  | false =>
    have HR2 : Hid (ofR P k = -1) := by show _ = _; rw [HR.out]; rfl
    clear HR
    go_enter Try.func11, Try.ntmps11
    go_wp2_with (first | ((with_reducible show wpList _ _ _ (Oper.mk (some 8) _ _ _ _ _ :: _) _ _); rw [HW0.out]; refine wpList_load_keyD 8 (by rfl) (by rfl) _ (by rfl) w.heap.size 0 (by rfl) k HK.out HA.out ?_) | (go_at_call 30; refine (CG.out _).mono ?_; rintro e w1 ⟨rfl, hb1⟩; have HB1 : Hid (Below w.heap.size w w1) := HB.out.trans (hb1.mono HB.out.size); clear hb1))
    go_ret
    exact ⟨by rw [HR2.out]; rfl, HB1.out⟩
  | true =>
    have HR2 : Hid (ofR P k = (ofN P k : Int)) := by show _ = _; rw [HR.out]; rfl
    clear HR
    go_enter Try.func11, Try.ntmps11
    go_wp2_with (first | ((with_reducible show wpList _ _ _ (Oper.mk (some 8) _ _ _ _ _ :: _) _ _); rw [HW0.out]; refine wpList_load_keyD 8 (by rfl) (by rfl) _ (by rfl) w.heap.size 0 (by rfl) k HK.out HA.out ?_) | (go_at_call 30; refine (CG.out _).mono ?_; rintro e w1 ⟨rfl, hb1⟩; have H1 : Hid (Below W0.heap.size W0 w1) := hb1; have q0 := HC.out w1 hb1; clear hb1))
    go_loopw [5, 16] (fun nv iv wr => ∃ i m : Nat, i ≤ N ∧ m ≤ i ∧ iv = .int .i64 i ∧ nv = .int .i64 m ∧ Hid (m = upR P k i) ∧ Hid (Below W0.heap.size W0 wr)) (fun _ iv _ => N - (intOf iv).toNat)
    case atStart => exact ⟨0, 0, Nat.zero_le _, Nat.le_refl _, rfl, rfl, rfl, H1.out⟩
    case round =>
      obtain ⟨i, m, hi, hm, rfl, rfl, HM, HBR⟩ := hrel
      have hi0 : (0 : Int) ≤ (i : Int) := by omega
      have hm0 : (0 : Int) ≤ (m : Int) := by omega
      have hm1 : (m : Int) ≤ 1000000 := by omega
      clear q0
      by_cases hlt : i < N
      · have h1 : (i : Int) < (N : Int) := by omega
        obtain ⟨b, o, hao, hka, hko⟩ := HKEY.out i hlt
        subst hao
        have HNX : Hid (upR P k (i + 1) = upR P k i + if lexC (P.getD i []) k ≤ 0 then 1 else 0) := upR_next (by rw [HN.out]; exact hlt)
        obtain ⟨p, hp⟩ : ∃ x, x = P.getD i [] := ⟨_, rfl⟩
        rw [← hp] at hka hko HNX
        have FK : Hid (∀ u, Below W0.heap.size W0 u → KeyAt u b (o + i * 16) p) := hka
        have KP : Hid (Ky p) := hko
        obtain ⟨r, hr⟩ : ∃ x, x = lexC p k := ⟨_, rfl⟩
        have CC : Hid (∀ u, Calls Try.prog 31 #[kv p, kv k] u fun e w' => e = .returned (.int .i64 r) ∧ Below u.heap.size u w') := fun u => by rw [hr]; exact kcmp_any p k hko HK.out u
        rw [← hr] at HNX
        have hmine := KeyMine.made wr 28 zeroK zeroK_ky
        obtain ⟨hk1, hb2, hz1⟩ := laid_keyR wr 28 hko
        rw [zero_cells] at hmine hk1 hb2 hz1
        have HMI : Hid _ := hmine
        have HK1 : Hid _ := hk1
        have HB2 : Hid _ := hb2
        clear hka hko hp hr hmine hk1 hb2 hz1
        by_cases hr0 : r ≤ 0
        · have HM2 : Hid (m + 1 = upR P k (i + 1)) := by show _ = _; rw [HNX.out, if_pos hr0, ← HM.out]
          go_wp2_with (first
            | ((with_reducible show wpList _ _ _ (Oper.mk (some 19) _ _ _ _ _ :: _) _ _); refine wpList_load_keyD 19 (by rfl) (by rfl) _ (by rfl) b (o + i * 16) (by rfl) p KP.out (FK.out _ HBR.out) ?_)
            | (have hgo := HMI.out; clear hgo; refine wpList_store_keyU (by rfl) _ _ (by rfl) wr.heap.size 0 zeroK p (by rfl) (by rfl) KP.out HMI.out ?_; intro u2 hu; rw [← hu] at HK1 HB2; have HBU : Hid (Below W0.heap.size W0 u2) := HBR.out.trans (HB2.out.mono HBR.out.size); clear hu HMI)
            | ((with_reducible show wpList _ _ _ (Oper.mk (some 20) _ _ _ _ _ :: _) _ _); refine wpList_load_keyD 20 (by rfl) (by rfl) _ (by rfl) wr.heap.size 0 (by rfl) p KP.out HK1.out.lies ?_)
            | ((with_reducible show wpList _ _ _ (Oper.mk (some 21) _ _ _ _ _ :: _) _ _); refine wpList_load_keyD 21 (by rfl) (by rfl) _ (by rfl) w.heap.size 0 (by rfl) k HK.out (HA.out.past HBU.out) ?_)
            | (go_at_call 31; refine (CC.out _).mono ?_; rintro e w4 ⟨rfl, hb4⟩; have H4 : Hid (Below W0.heap.size W0 w4) := HBU.out.trans (hb4.mono HBU.out.size); clear hb4))
          go_roundw
          case rel => exact ⟨i + 1, m + 1, by omega, by omega, by go_num, by go_num, HM2, H4⟩
          case measure => simp [intOf]; omega
        · have HM2 : Hid (m = upR P k (i + 1)) := by show _ = _; rw [HNX.out, if_neg hr0, ← HM.out]; rfl
          go_wp2_with (first
            | ((with_reducible show wpList _ _ _ (Oper.mk (some 19) _ _ _ _ _ :: _) _ _); refine wpList_load_keyD 19 (by rfl) (by rfl) _ (by rfl) b (o + i * 16) (by rfl) p KP.out (FK.out _ HBR.out) ?_)
            | (have hgo := HMI.out; clear hgo; refine wpList_store_keyU (by rfl) _ _ (by rfl) wr.heap.size 0 zeroK p (by rfl) (by rfl) KP.out HMI.out ?_; intro u2 hu; rw [← hu] at HK1 HB2; have HBU : Hid (Below W0.heap.size W0 u2) := HBR.out.trans (HB2.out.mono HBR.out.size); clear hu HMI)
            | ((with_reducible show wpList _ _ _ (Oper.mk (some 20) _ _ _ _ _ :: _) _ _); refine wpList_load_keyD 20 (by rfl) (by rfl) _ (by rfl) wr.heap.size 0 (by rfl) p KP.out HK1.out.lies ?_)
            | ((with_reducible show wpList _ _ _ (Oper.mk (some 21) _ _ _ _ _ :: _) _ _); refine wpList_load_keyD 21 (by rfl) (by rfl) _ (by rfl) w.heap.size 0 (by rfl) k HK.out (HA.out.past HBU.out) ?_)
            | (go_at_call 31; refine (CC.out _).mono ?_; rintro e w4 ⟨rfl, hb4⟩; have H4 : Hid (Below W0.heap.size W0 w4) := HBU.out.trans (hb4.mono HBU.out.size); clear hb4))
          go_roundw
          case rel => exact ⟨i + 1, m, by omega, by omega, by go_num, rfl, HM2, H4⟩
          case measure => simp [intOf]; omega
      · obtain rfl : i = N := by omega
        have HX : Hid (ofR P k = (m : Int)) := by show _ = _; rw [HR2.out, HM.out, upR_all HN.out]
        go_wp2
        go_ret
        exact ⟨by rw [HX.out]; rfl, HB.out.trans (HBR.out.mono HB.out.size)⟩
end Go.Proofs.Ytdbgkbgodnknnaa
