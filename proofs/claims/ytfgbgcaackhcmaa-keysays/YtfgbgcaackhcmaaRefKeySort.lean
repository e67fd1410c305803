/-
  What the document's own lists of keys in order (hourglassref10: Sort) answer.
-/
import Derived.Test.YtfgbgcaackhcmaaRefKeyIns
namespace Go.Proofs.Ytfgbgcaackhcmaa
open Go.RowKit
set_option linter.unusedVariables false

/-- Where the place of a key is looked for. -/
structure Look (w u : World) (l : List (List Int)) (a : Option Addr) (v : Value) (S : List (List Int)) : Prop where
  below : Below w.heap.size w u
  src : KeysAt u a l
  mine : KeysMine u w.heap.size v S
theorem Look.past {w u u' : World} {l : List (List Int)} {a : Option Addr} {v : Value} {S : List (List Int)} (h : Look w u l a v S) (hb : Below u.heap.size u u') : Look w u' l a v S :=
  ⟨h.below.trans (hb.mono h.below.size), h.src.past hb, h.mine.past hb⟩
theorem insert_mine {w u : World} {B : Nat} {v : Value} {S : List (List Int)} {X : List Int} {k m : Nat} (hB : B ≤ w.heap.size) (h : OwnB 24 16 w u v (k + 1 + m) ((S.take k).flatMap kc ++ kc X ++ (S.drop k).flatMap kc)) (hm : k + m = S.length) (hS : Kys S) (hX : Ky X) (hi : insK X S = S.take k ++ X :: S.drop k) : KeysMine u B v (insK X S) := by
  have e : (insK X S).flatMap kc = (S.take k).flatMap kc ++ kc X ++ (S.drop k).flatMap kc := by rw [hi, List.flatMap_append, List.flatMap_cons, List.append_assoc]
  have el : (insK X S).length = k + 1 + m := by rw [hi]; simp; omega
  refine ⟨?_, fun x hx => ?_⟩
  · rw [e, el]; exact World.ownsRow.mono h.own hB
  · rcases (mem_insK X S x).1 hx with rfl | hx
    · exact hX
    · exact hS x hx
theorem Look.ins {w wq u : World} {l : List (List Int)} {a : Option Addr} {v v' : Value} {S : List (List Int)} {X : List Int} {i k m : Nat} (h : Look w wq l a v S) (ho : OwnB 24 16 wq u v' (k + 1 + m) ((S.take k).flatMap kc ++ kc X ++ (S.drop k).flatMap kc)) (hm : k + m = S.length) (hX : Ky X) (hi : insK X S = S.take k ++ X :: S.drop k) (hn : sortK (l.take (i + 1)) = insK X S) : Look w u l a v' (sortK (l.take (i + 1))) := by
  rw [hn]
  exact ⟨h.below.trans (ho.below.mono h.below.size), h.src.past ho.below, insert_mine h.below.size ho hm h.mine.kys hX hi⟩
theorem insK_pos (X : List Int) (S : List (List Int)) : 0 < (insK X S).length := by
  cases S with
  | nil => simp [insK]
  | cons a r =>
    unfold insK
    split
    · simp
    · split <;> simp
set_option maxRecDepth 8000 in
set_option maxHeartbeats 4000000 in
theorem rsort_any (a : Option Addr) (N cap : Nat) (l : List (List Int)) (w : World) (hl : l.length = N) (hN : N ≤ 1000) (hat : KeysAt w a l) :
    Calls Try.prog 24 #[.slice a N cap] w fun e w' => ∃ v, e = .returned v ∧ KeysMine w' w.heap.size v (sortK l) ∧ Below w.heap.size w w' := by
  have HL : Hid (l.length = N) := hl
  have HA : Hid (KeysAt w a l) := hat
  clear hl hat
  go_enter Try.func24, Try.ntmps24
  go_wp2
  go_loopw [3, 4] (fun sv iv wr => ∃ i : Nat, iv = .int .i64 i ∧ i ≤ N ∧ Hid (Look w wr l a sv (sortK (l.take i))) ∧ (i = 0 → sv = .slice none 0 0) ∧ Hid (0 < i → 0 < (sortK (l.take i)).length)) (fun _ iv _ => N - (intOf iv).toNat)
  case atStart => exact ⟨0, rfl, Nat.zero_le _, ⟨Below.refl _ _, HA.out, ⟨World.ownsRow_nil _ _ _ _, fun k hk => by simp [sortK] at hk⟩⟩, fun _ => rfl, fun h => absurd h (by omega)⟩
  case round =>
    obtain ⟨i, rfl, hi, HO, hv0, HVN⟩ := hrel
    by_cases hlt : i < N
    · have hil : i < l.length := by rw [HL.out]; exact hlt
      obtain ⟨b, o, rfl, -, hky⟩ := HA.out.key hil
      obtain ⟨b', o', hbo, hXat, -⟩ := HO.out.src.key hil
      obtain ⟨rfl, rfl⟩ : b' = b ∧ o' = o := by injection hbo with h; injection h with h1 h2; exact ⟨h1.symm, h2.symm⟩
      obtain ⟨X, hX⟩ : ∃ X, X = l.getD i [] := ⟨_, rfl⟩
      rw [← hX] at hky hXat
      have HKY : Hid (Ky X) := hky
      have HXA : Hid (∀ u, Below wr.heap.size wr u → KeyAt u b' (o' + i * 16) X) := fun u hb => hXat.past hb
      have HNX : Hid (sortK (l.take (i + 1)) = insK X (sortK (l.take i))) := by rw [hX]; exact sortK_take l i hil
      have HPOS : Hid (0 < (sortK (l.take (i + 1))).length) := by rw [HNX.out]; exact insK_pos _ _
      have HI : Hid (i < N) := hlt
      clear hX hky hil hXat hbo
      by_cases h0 : i = 0
      · have hv := hv0 h0
        subst hv
        have HE : Hid (sortK (l.take i) = []) := by rw [h0]; rfl
        clear hv0 HVN h0
        go_wp2
        go_loopw [5] (fun kv wr' => kv = .int .i64 0 ∧ wr' = wr) (fun kv _ => 0)
        case atStart => exact ⟨rfl, rfl⟩
        case round =>
          obtain ⟨rfl, rfl⟩ := hrel
          go_wp2
          go_quiet (fail)
          go_wp2
          go_quiet (fail)
          go_wp2
          generalize hwq : (wr.drewN _).drewN _ = wq
          have HB : Hid (Below wr.heap.size wr wq) := by rw [← hwq]; exact below_dN (below_dN (Below.refl _ _) _) _
          have HQ : Hid (Look w wq l (some ⟨b', o', none⟩) (.slice none 0 0) []) := by have h := HO.out.past HB.out; rw [HE.out] at h; exact h
          have HNX' : Hid (sortK (l.take (i + 1)) = insK X []) := by show _ = _; rw [HNX.out, HE.out]
          clear hwq
          refine sreg9n wq _ b' o' N cap i X HKY.out HI.out (HXA.out wq HB.out) hN ?_
          intro y45 y46 y47 y48 y49 y50 y51 y52 y53 y54 y55 y56 y57 y58 y59 a5 c5 w5 ho5
          have HNW : Hid (Look w w5 l (some ⟨b', o', none⟩) (.slice a5 (0 + 1 + 0) c5) (sortK (l.take (i + 1)))) := HQ.out.ins (k := 0) (m := 0) (S := []) ho5 rfl HKY.out rfl HNX'.out
          clear ho5
          go_wp2
          go_roundw
          case rel => exact ⟨i + 1, by go_num, HI.out, HNW, fun h => absurd h (by omega), fun _ => HPOS.out⟩
          case measure => simp [intOf]; have := HI.out; omega
      · have hpos := HVN.out (by omega)
        obtain ⟨S, hS⟩ : ∃ S, S = sortK (l.take i) := ⟨_, rfl⟩
        rw [← hS] at HO hpos HNX
        have HM1 : Hid (S.length ≤ 1000) := by
          have h1 := (sortK_facts (l.take i)).2.2
          rw [← hS] at h1
          have h2 := List.length_take_le i l
          exact Nat.le_trans (Nat.le_trans h1 h2) (by omega)
        clear hS hv0 HVN h0
        obtain ⟨g, cp, rfl, hcp, hBg, hgl, hKA⟩ := HO.out.mine.shape hpos
        have HKA : Hid (∀ u, Below wr.heap.size wr u → KeysAt u (some ⟨g, 0, none⟩) S) := fun u hb => hKA.past hb
        obtain ⟨M, hM⟩ : ∃ M, M = S.length := ⟨_, rfl⟩
        have HM : Hid (M = S.length) := hM
        rw [← hM] at hcp hpos HO HM1 ⊢
        clear hM hKA
        obtain ⟨wo, rfl⟩ : ∃ wo : World, wo = wr := ⟨wr, rfl⟩
        go_wp2
        go_loopw [5] (fun kv wr' => ∃ k : Nat, kv = .int .i64 k ∧ k ≤ M ∧ Hid (Below wo.heap.size wo wr') ∧ Hid (∀ j, j < k → lexC (S.getD j []) X < 0)) (fun kv _ => M - (intOf kv).toNat)
        case atStart => exact ⟨0, rfl, Nat.zero_le _, Below.refl _ _, fun j hj => absurd hj (by omega)⟩
        case round =>
          obtain ⟨k, rfl, hk, HBW, HJ⟩ := hrel
          have hk1 : (k : Int) ≤ 1000 := by have := HM1.out; omega
          by_cases hkl : k < M
          · have HKM : Hid (k < M) := hkl
            obtain ⟨g', o2, hgo, hYat, hYk⟩ := (HKA.out wr HBW.out).key (i := k) (by rw [← HM.out]; exact hkl)
            obtain ⟨rfl, rfl⟩ : g' = g ∧ o2 = 0 := by injection hgo with h; injection h with h1 h2; exact ⟨h1.symm, h2.symm⟩
            rw [Nat.zero_add] at hYat
            obtain ⟨Y, hY⟩ : ∃ Y, Y = S.getD k [] := ⟨_, rfl⟩
            rw [← hY] at hYat hYk
            have HY : Hid (Y = S.getD k []) := hY
            have HYK : Hid (Ky Y) := hYk
            have HYA : Hid (∀ u, Below wr.heap.size wr u → KeyAt u g' (k * 16) Y) := fun u hb => hYat.past hb
            clear hgo hYat hYk hY
            go_wp2
            refine sreg6 wr _ b' o' N cap g' M cp i k X Y HKY.out HYK.out HI.out HKM.out (HYA.out wr (Below.refl _ _)) (HXA.out wr HBW.out) hN HM1.out ?_
            intro y12 y13 y14 y15 y16 y17 y18 y19 y20 y21 y22 y23 y24 y25 y26 w5 hb5
            have H5 : Hid (Below wr.heap.size wr w5) := hb5
            have HB5 : Hid (Below wo.heap.size wo w5) := HBW.out.trans (hb5.mono HBW.out.size)
            clear hb5
            by_cases hlx : lexC Y X < 0
            · rw [decide_eq_true hlx]
              have HLX : Hid (lexC Y X < 0) := hlx
              clear hlx
              go_wp2
              go_roundw
              case rel => exact ⟨k + 1, by go_num, HKM.out, HB5, fun j hj => by
                rcases Nat.lt_or_ge j k with h' | h'
                · exact HJ.out j h'
                · obtain rfl : j = k := by omega
                  rw [← HY.out]; exact HLX.out⟩
              case measure => simp [intOf]; have := HKM.out; omega
            · rw [decide_eq_false hlx]
              have HLX : Hid (¬ lexC Y X < 0) := hlx
              clear hlx
              go_wp2
              refine sreg8 w5 _ b' o' N cap g' M cp i k X Y HKY.out HYK.out HI.out HKM.out (HYA.out w5 H5.out) (HXA.out w5 HB5.out) hN HM1.out ?_
              intro y30 y31 y32 y33 y34 y35 y36 y37 y38 y39 y40 y41 y42 y43 w6 hb6
              have HB6 : Hid (Below wo.heap.size wo w6) := HB5.out.trans (hb6.mono HB5.out.size)
              clear hb6
              by_cases hyx : Y = X
              · rw [decide_eq_true hyx]
                have HINS : Hid (insK X S = S) := insK_there X S k (by rw [← HM.out]; exact hkl) HJ.out (by rw [← HY.out]; exact hyx)
                have HNW : Hid (Look w w6 l (some ⟨b', o', none⟩) (.slice (some ⟨g', 0, none⟩) M cp) (sortK (l.take (i + 1)))) := by
                  rw [HNX.out, HINS.out]
                  exact HO.out.past HB6.out
                clear hyx
                go_wp2
                go_roundw
                case rel => exact ⟨i + 1, by go_num, HI.out, HNW, fun h => absurd h (by omega), fun _ => HPOS.out⟩
                case measure => simp [intOf]; have := HI.out; omega
              · rw [decide_eq_false hyx]
                have HINS : Hid (insK X S = S.take k ++ X :: S.drop k) := insK_split X S k (by rw [← HM.out]; omega) HJ.out (fun _ => ⟨by rw [← HY.out]; have := HLX.out; omega, by rw [← HY.out]; exact hyx⟩)
                have HQ : Hid (Look w w6 l (some ⟨b', o', none⟩) (.slice (some ⟨g', 0, none⟩) M cp) S) := HO.out.past HB6.out
                have hkc : ¬ cp = k := by omega
                clear hyx
                go_wp2
                refine sreg9a w6 _ b' o' N cap g' M cp i k S X HKY.out HI.out (HXA.out w6 HB6.out) hN HM1.out (HKA.out w6 HB6.out) HM.out.symm hk hcp hkc ?_
                intro y45 y46 y47 y48 y49 y50 y51 y52 y53 y54 y55 y56 y57 y58 y59 a5 c5 w7 ho5
                have HNW : Hid (Look w w7 l (some ⟨b', o', none⟩) (.slice a5 (k + 1 + (M - k)) c5) (sortK (l.take (i + 1)))) := HQ.out.ins ho5 (by rw [← HM.out]; omega) HKY.out HINS.out HNX.out
                clear ho5
                go_wp2
                go_roundw
                case rel => exact ⟨i + 1, by go_num, HI.out, HNW, fun h => absurd h (by omega), fun _ => HPOS.out⟩
                case measure => simp [intOf]; have := HI.out; omega
          · have hkm : k = M := by omega
            have HINS : Hid (insK X S = S.take k ++ X :: S.drop k) := insK_split X S k (by rw [← HM.out]; omega) HJ.out (fun h => absurd h (by rw [← HM.out]; omega))
            subst hkm
            have k2 : ¬ (k : Int) < (k : Int) := by omega
            go_wp2
            go_quiet (fail)
            go_wp2
            go_quiet (fail)
            go_wp2
            generalize hwq : (wr.drewN _).drewN _ = wq
            have HB6 : Hid (Below wo.heap.size wo wq) := by rw [← hwq]; exact below_dN (below_dN HBW.out _) _
            have HQ : Hid (Look w wq l (some ⟨b', o', none⟩) (.slice (some ⟨g, 0, none⟩) k cp) S) := HO.out.past HB6.out
            clear hwq
            by_cases hkc : cp = k
            · subst hkc
              refine sreg9b wq _ b' o' N cap g i cp S X HKY.out HI.out (HXA.out wq HB6.out) hN HM1.out (HKA.out wq HB6.out) HM.out.symm ?_
              intro y45 y46 y47 y48 y49 y50 y51 y52 y53 y54 y55 y56 y57 y58 y59 a5 c5 w7 ho5
              have HNW : Hid (Look w w7 l (some ⟨b', o', none⟩) (.slice a5 (cp + 1 + 0) c5) (sortK (l.take (i + 1)))) := HQ.out.ins ho5 (by rw [← HM.out]; rfl) HKY.out HINS.out HNX.out
              clear ho5
              go_wp2
              go_roundw
              case rel => exact ⟨i + 1, by go_num, HI.out, HNW, fun h => absurd h (by omega), fun _ => HPOS.out⟩
              case measure => simp [intOf]; have := HI.out; omega
            · refine sreg9a wq _ b' o' N cap g k cp i k S X HKY.out HI.out (HXA.out wq HB6.out) hN HM1.out (HKA.out wq HB6.out) HM.out.symm (Nat.le_refl _) hcp hkc ?_
              intro y45 y46 y47 y48 y49 y50 y51 y52 y53 y54 y55 y56 y57 y58 y59 a5 c5 w7 ho5
              have HNW : Hid (Look w w7 l (some ⟨b', o', none⟩) (.slice a5 (k + 1 + (k - k)) c5) (sortK (l.take (i + 1)))) := HQ.out.ins ho5 (by rw [← HM.out]; omega) HKY.out HINS.out HNX.out
              clear ho5
              go_wp2
              go_roundw
              case rel => exact ⟨i + 1, by go_num, HI.out, HNW, fun h => absurd h (by omega), fun _ => HPOS.out⟩
              case measure => simp [intOf]; have := HI.out; omega
    · obtain rfl : i = N := by omega
      have hlt2 : ¬ (i : Int) < (i : Int) := by omega
      go_wp2
      go_ret
      exact ⟨_, rfl, by have h := HO.out.mine; rw [List.take_of_length_le (by rw [HL.out]; exact Nat.le_refl _)] at h; exact h, HO.out.below⟩
end Go.Proofs.Ytfgbgcaackhcmaa
