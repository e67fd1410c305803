/-
  What package write answers of writes: Good, GoodList.
-/
import Derived.Test.YtcppihpehipelaaAu59
import Derived.Test.YtcppihpehipelaaAu49
namespace Go.Proofs.Ytcppihpehipelaa
open Go.RowKit
set_option linter.unusedVariables false

theorem wpList_len_is (d : Tmp) {ops : Array Oper} {rest : List Oper} {op : Oper} {a : Act} {w : World} {Q : Exit → Act → World → Prop} (hd : op.dst = some d) (hw : Region.wanted op (yielded ops a.tmps) = true) (m : Operand) (t : TypeId) (ho : op.op = Op.call { callee := Callee.builtin Builtin.len, args := #[m], argTypes := #[t] })
    (b : Nat) (v : Value) (hm : a.eval m = .map (some b)) (hrun : ∀ ty, (Builtin.len_ #[t] ty #[.map (some b)]).run Try.prog w = .ok v w)
    (h : wpList Try.prog ops Q rest (a.put op.dst v) w) : wpList Try.prog ops Q (op :: rest) a w :=
  wpList_step fun K hK => by
    rw [if_pos hw]
    unfold Oper.wp
    simp [execOp, ho, resolve, invoke, builtin, hm, hrun, Result.andThen]
    exact hK _ _ h
theorem KSet.len {u : World} {m c : Nat} {l : List (List Int)} (h : KSet u m c l) {t e : TypeId} (ht : Try.prog.underlying t = some (.map 84 e)) (ty : TypeId) : (Builtin.len_ #[t] ty #[.map (some m)]).run Try.prog u = .ok (.int .i64 (c : Nat)) u := by
  obtain ⟨D, h1, h2, _⟩ := h
  rw [← h2]
  exact h1.len ht ty
theorem not_nodup {α : Type} : ∀ {l : List α}, ¬ l.Nodup → ∃ s a t, l = s ++ a :: t ∧ a ∈ s ++ t
  | [], h => absurd List.nodup_nil h
  | b :: r, h => by
    by_cases hb : b ∈ r
    · exact ⟨[], b, r, rfl, hb⟩
    · have hr : ¬ r.Nodup := fun e => h (List.nodup_cons.2 ⟨hb, e⟩)
      obtain ⟨s, a, t, e, ha⟩ := not_nodup hr
      exact ⟨b :: s, a, t, by rw [e]; rfl, List.mem_cons_of_mem _ ha⟩
theorem nodup_of_len {α : Type} {A B : List α} (hA : A.Nodup) (h : ∀ x, x ∈ A ↔ x ∈ B) (hl : A.length = B.length) : B.Nodup := by
  refine Classical.byContradiction (fun hn => ?_)
  obtain ⟨s, a, t, rfl, ha⟩ := not_nodup hn
  have := len_le_of_sub (m := s ++ t) hA (fun x hx => by
    rcases List.mem_append.1 ((h x).1 hx) with e | e
    · exact List.mem_append_left _ e
    · rcases List.mem_cons.1 e with e | e
      · rw [e]; exact ha
      · exact List.mem_append_right _ e)
  simp at this hl
  omega
theorem KSet.count {u : World} {m c : Nat} {l : List (List Int)} (h : KSet u m c l) : c = l.length ↔ l.Nodup := by
  obtain ⟨D, h1, h2, h3, h4⟩ := h
  obtain ⟨es, rfl, he, hk⟩ := h1.entries kLaw
  rw [Maps.size_eq] at h2
  have hn1 : (es.map (·.1)).Nodup := by
    unfold List.Nodup
    rw [List.pairwise_map]
    exact he
  have hh : ∀ x, x ∈ es.map (·.1) ↔ x ∈ l.map kyl := fun x => by
    rw [List.mem_map (l := l), ← h4, Maps.has_eq, List.any_eq_true]
    constructor
    · intro hx
      obtain ⟨p, hp, rfl⟩ := List.mem_map.1 hx
      exact ⟨p, hp, WideAt.sameKey_self (hk p hp)⟩
    · rintro ⟨p, hp, e⟩
      rw [← WideAt.sameKey_eq e]
      exact List.mem_map.2 ⟨p, hp, rfl⟩
  have hnd : (l.map kyl).Nodup ↔ l.Nodup := by
    unfold List.Nodup
    rw [List.pairwise_map]
    constructor
    · intro hp
      exact List.Pairwise.imp (fun hab e => hab (by rw [e])) hp
    · intro hp
      exact List.Pairwise.imp_of_mem (fun ha hb hab e => hab (kyl_inj (h3 _ ha) (h3 _ hb) e)) hp
  rw [← hnd]
  constructor
  · intro e
    exact nodup_of_len hn1 hh (by rw [List.length_map, List.length_map, h2, e])
  · intro hn
    have := len_eq_of_same hn1 hn hh
    rw [List.length_map, List.length_map, h2] at this
    exact this
theorem WrtAt.c0 {w : World} {b : Nat} {W : Wrt} (h : WrtAt w b 0 W) (hk : Ky W.k) : w.cell? ⟨b, 16, none⟩ = some (.string (strOfNums W.v)) ∧ w.cell? ⟨b, 17, none⟩ = some (.bool W.g) := by
  have := h.cells hk
  rw [Nat.zero_add, Nat.zero_add] at this
  exact this
/-- May a write be? -/
def okW (W : Wrt) : Bool := goodK W.k && decide (W.v.length ≤ 200) && (!W.g || decide (W.v = []))
set_option maxHeartbeats 2000000 in
theorem sgoodw_any (W : Wrt) (hW : WrtOk W) (w : World) :
    Calls Try.prog 68 #[wv W] w fun e w' => e = .returned (.bool (okW W)) ∧ Below w.heap.size w w' := by
  obtain ⟨U, hU⟩ : ∃ U, U = w.alloc (.cells (encW W).toArray 86) := ⟨_, rfl⟩
  have HUB : Hid (Below w.heap.size w U) := by rw [hU]; exact (Below.refl _ _).alloc (Nat.le_refl _) _
  have hmine : WrtMine U w.heap.size 0 W := by rw [hU]; exact WrtMine.made w 86 W hW.key
  have KY : Hid (Ky W.k) := hW.key
  have FK : Hid (KeyAt U w.heap.size 0 W.k) := hmine.at_.key hW.key
  have FB : Hid (∀ u, Below U.heap.size U u → Hid (Below w.heap.size w u) ∧ u.cell? ⟨w.heap.size, 16, none⟩ = some (.string (strOfNums W.v)) ∧ u.cell? ⟨w.heap.size, 17, none⟩ = some (.bool W.g)) := fun u hb => ⟨HUB.out.trans (hb.mono HUB.out.size), (hmine.at_.past hb).c0 hW.key⟩
  have CG : Hid (∀ u, Calls Try.prog 84 #[kv W.k] u fun e w' => e = .returned (.bool (goodK W.k)) ∧ Below u.heap.size u w') := fun u => kgood_any W.k hW.key u
  obtain ⟨S, hS⟩ : ∃ S, S = strOfNums W.v := ⟨_, rfl⟩
  obtain ⟨m, hm⟩ : ∃ m, m = W.v.length := ⟨_, rfl⟩
  have hsz : S.size = m := by rw [hS, hm]; exact strOfNums_size _
  have hfew : m ≤ 9223372036854775807 := by
    have := hW.few
    unfold maxLen at this
    rw [hm]
    exact Nat.le_trans this (by omega)
  have hemp : S.toList.isEmpty = decide (W.v = []) := by
    rw [hS, ByteArray.toList_eq, strOfNums_data]
    cases W.v with
    | nil => rfl
    | cons z r => simp
  obtain ⟨R, hR⟩ : ∃ R, R = okW W := ⟨_, rfl⟩
  have hok : R = (goodK W.k && decide (m ≤ 200) && (!W.g || decide (W.v = []))) := by rw [hR, hm]; rfl
  rw [← hS] at FB
  rw [← hR]
  generalize W.k = k at *
  generalize W.g = g at *
  generalize hv : W.v = v at *
  obtain ⟨C, hC⟩ : ∃ C, C = encW W := ⟨_, rfl⟩
  rw [← hC] at hU
  show Calls Try.prog 68 #[.agg (encW W).toArray] w fun e w' => e = .returned (.bool R) ∧ Below w.heap.size w w'
  rw [← hC]
  obtain ⟨HB0, y0, y1⟩ := FB.out U (Below.refl _ _)
  rw [hU] at y0 y1 FK HB0 FB
  have HUB2 := HB0
  clear hmine hR hm hS hv hU hC hW HUB
  cases g with
  | true =>
    by_cases h3 : v = []
    · rw [decide_eq_true h3] at hemp hok
      cases hg : goodK k with
      | true =>
        rw [hg] at CG hok
        by_cases h2 : m ≤ 200
        · have d2 : decide ((m : Int) ≤ 200) = true := decide_eq_true (by omega)
          have HR : Hid (R = true) := by rw [hok, decide_eq_true h2]; rfl
          clear hok h3 h2 hg
          go_enter Try.func68, Try.ntmps68
          go_wp2_with (first | (refine wpList_load_keyD 11 (by rfl) (by rfl) _ (by rfl) w.heap.size 0 (by rfl) k KY.out FK.out ?_) | (go_at_call 84; refine (CG.out _).mono ?_; rintro e w1 ⟨rfl, hb1⟩; obtain ⟨B1, r0, r1⟩ := FB.out w1 hb1; clear hb1))
          go_ret
          exact ⟨by rw [HR.out]; rfl, B1.out⟩
        · have d2 : decide ((m : Int) ≤ 200) = false := decide_eq_false (by omega)
          have HR : Hid (R = false) := by rw [hok, decide_eq_false h2]; rfl
          clear hok h3 h2 hg
          go_enter Try.func68, Try.ntmps68
          go_wp2_with (first | (refine wpList_load_keyD 11 (by rfl) (by rfl) _ (by rfl) w.heap.size 0 (by rfl) k KY.out FK.out ?_) | (go_at_call 84; refine (CG.out _).mono ?_; rintro e w1 ⟨rfl, hb1⟩; obtain ⟨B1, r0, r1⟩ := FB.out w1 hb1; clear hb1))
          go_ret
          exact ⟨by rw [HR.out]; rfl, B1.out⟩
      | false =>
        rw [hg] at CG hok
        have HR : Hid (R = false) := by rw [hok]; rfl
        clear hok h3 hg
        go_enter Try.func68, Try.ntmps68
        go_wp2_with (first | (refine wpList_load_keyD 11 (by rfl) (by rfl) _ (by rfl) w.heap.size 0 (by rfl) k KY.out FK.out ?_) | (go_at_call 84; refine (CG.out _).mono ?_; rintro e w1 ⟨rfl, hb1⟩; obtain ⟨B1, r0, r1⟩ := FB.out w1 hb1; clear hb1))
        go_ret
        exact ⟨by rw [HR.out]; rfl, B1.out⟩
    · rw [decide_eq_false h3] at hemp hok
      have HR : Hid (R = false) := by show R = false; rw [hok]; simp
      clear hok h3
      go_enter Try.func68, Try.ntmps68
      go_wp2
      go_ret
      exact ⟨by rw [HR.out]; rfl, HUB2.out⟩
  | false =>
    cases hg : goodK k with
    | true =>
      rw [hg] at CG hok
      by_cases h2 : m ≤ 200
      · have d2 : decide ((m : Int) ≤ 200) = true := decide_eq_true (by omega)
        have HR : Hid (R = true) := by rw [hok, decide_eq_true h2]; rfl
        clear hok h2 hg
        go_enter Try.func68, Try.ntmps68
        go_wp2_with (first | (refine wpList_load_keyD 11 (by rfl) (by rfl) _ (by rfl) w.heap.size 0 (by rfl) k KY.out FK.out ?_) | (go_at_call 84; refine (CG.out _).mono ?_; rintro e w1 ⟨rfl, hb1⟩; obtain ⟨B1, r0, r1⟩ := FB.out w1 hb1; clear hb1))
        go_ret
        exact ⟨by rw [HR.out]; rfl, B1.out⟩
      · have d2 : decide ((m : Int) ≤ 200) = false := decide_eq_false (by omega)
        have HR : Hid (R = false) := by rw [hok, decide_eq_false h2]; rfl
        clear hok h2 hg
        go_enter Try.func68, Try.ntmps68
        go_wp2_with (first | (refine wpList_load_keyD 11 (by rfl) (by rfl) _ (by rfl) w.heap.size 0 (by rfl) k KY.out FK.out ?_) | (go_at_call 84; refine (CG.out _).mono ?_; rintro e w1 ⟨rfl, hb1⟩; obtain ⟨B1, r0, r1⟩ := FB.out w1 hb1; clear hb1))
        go_ret
        exact ⟨by rw [HR.out]; rfl, B1.out⟩
    | false =>
      rw [hg] at CG hok
      have HR : Hid (R = false) := by rw [hok]; rfl
      clear hok hg
      go_enter Try.func68, Try.ntmps68
      go_wp2_with (first | (refine wpList_load_keyD 11 (by rfl) (by rfl) _ (by rfl) w.heap.size 0 (by rfl) k KY.out FK.out ?_) | (go_at_call 84; refine (CG.out _).mono ?_; rintro e w1 ⟨rfl, hb1⟩; obtain ⟨B1, r0, r1⟩ := FB.out w1 hb1; clear hb1))
      go_ret
      exact ⟨by rw [HR.out]; rfl, B1.out⟩
/-- What GoodList's rounds hold. -/
structure GoodR (w u : World) (l : List Wrt) (n : Nat) : Prop where
  below : Below w.heap.size w u
  set : ∃ c, KSet u w.heap.size c ((l.take n).map (·.k)) ∧ c ≤ n
  all : ∀ W ∈ l.take n, okW W = true
theorem GoodR.round {w u : World} {l : List Wrt} {n : Nat} (h : GoodR w u l n) {u2 : World} (hb : Below u.heap.size u u2) : GoodR w u2 l n :=
  ⟨h.below.trans (hb.mono h.below.size), by obtain ⟨c, h1, h2⟩ := h.set; exact ⟨c, h1.past hb, h2⟩, h.all⟩
theorem may_all {l : List Wrt} : mayW l 1 = true ↔ (1 ≤ l.length ∧ l.length ≤ 16) ∧ (∀ W ∈ l, okW W = true) ∧ (l.map (·.k)).Nodup := by
  unfold mayW List.Nodup
  simp only [Bool.and_eq_true, decide_eq_true_eq, List.all_eq_true, List.pairwise_map, and_assoc]
  unfold okW
  simp only [Bool.and_eq_true, decide_eq_true_eq, and_assoc]
set_option maxHeartbeats 4000000 in
set_option maxRecDepth 4000 in
theorem sgoods_any (a : Option Addr) (N cap : Nat) (l : List Wrt) (w : World) (hl : l.length = N) (hc : N ≤ cap) (hN : N ≤ 1000000) (hat : WrtsAt w a l) :
    Calls Try.prog 57 #[.slice a N cap] w fun e w' => e = .returned (.bool (mayW l 1)) ∧ Below w.heap.size w w' := by
  obtain ⟨R, hR⟩ : ∃ R, R = mayW l 1 := ⟨_, rfl⟩
  rw [← hR]
  have hmay := may_all (l := l)
  rw [← hR, hl] at hmay
  by_cases h0 : N = 0
  · have HR : Hid (R = false) := by
      cases R with
      | false => rfl
      | true => exfalso; have := (hmay.1 rfl).1.1; omega
    subst h0
    clear hmay hR hat hl
    go_enter Try.func57, Try.ntmps57
    go_wp2
    go_ret
    exact ⟨by rw [HR.out]; rfl, Below.refl _ _⟩
  by_cases h16 : 16 < N
  · have HR : Hid (R = false) := by
      cases R with
      | false => rfl
      | true => exfalso; have := (hmay.1 rfl).1.2; omega
    have d1 : ¬ ((N : Int) = 0) := by omega
    have d2 : (16 : Int) < (N : Int) := by omega
    clear hmay hR hat hl
    go_enter Try.func57, Try.ntmps57
    go_wp2
    go_ret
    exact ⟨by rw [HR.out]; rfl, Below.refl _ _⟩
  have HL : Hid (l.length = N) := hl
  have HA : Hid (WrtsAt w a l) := hat
  have H0 : Hid (GoodR w (w.alloc (.map #[] 0)) l 0) := ⟨(Below.refl _ _).alloc (Nat.le_refl _) _, ⟨0, by rw [List.take_zero]; exact KSet.made w, Nat.le_refl _⟩, fun W hW => by simp at hW⟩
  have HM : Hid (R = true ↔ (1 ≤ N ∧ N ≤ 16) ∧ (∀ W ∈ l, okW W = true) ∧ (l.map (·.k)).Nodup) := hmay
  have d1 : ¬ ((N : Int) = 0) := by omega
  have d2 : ¬ (16 : Int) < (N : Int) := by omega
  have hmm := @run_makeMap Try.prog
  clear hmay hR hat hl
  go_enter Try.func57, Try.ntmps57
  go_wp2
  generalize hU : w.alloc (.map #[] 0) = u at *
  clear hU hmm
  go_loopw [17] (fun i wr => ∃ n : Nat, n ≤ N ∧ i = .int .i64 n ∧ Hid (GoodR w wr l n)) (fun i _ => N - (intOf i).toNat)
  case atStart => exact ⟨0, Nat.zero_le _, rfl, H0⟩
  case round =>
    obtain ⟨n, hn, rfl, HS⟩ := hrel
    have hn0 : (0 : Int) ≤ (n : Int) := by omega
    by_cases hlt : n < N
    · have h1 : (n : Int) < (N : Int) := by omega
      obtain ⟨W, hW⟩ : ∃ W, l[n]? = some W := ⟨_, List.getElem?_eq_getElem (by rw [HL.out]; exact hlt)⟩
      obtain ⟨b, o, rfl, hwa, hwo⟩ := (HA.out.past (w' := wr) HS.out.below).wrt hW
      have HWA : Hid (WrtAt wr b (o + n * 18) W) := hwa
      have HT : Hid (l.take (n + 1) = l.take n ++ [W]) := by show _ = _; rw [List.take_add_one, hW]; rfl
      have HWM : Hid (W ∈ l) := List.mem_of_getElem? hW
      have KW : Hid (Ky W.k) := hwo.key
      have CG : Hid (∀ u, Calls Try.prog 68 #[wv W] u fun e w' => e = .returned (.bool (okW W)) ∧ Below u.heap.size u w') := fun u => sgoodw_any W hwo u
      have hmine := WrtMine.made wr 86 zeroW zeroW_ky
      obtain ⟨hk1, hb1, hz1⟩ := laid_wrt wr 86 (W := W) hwo.key
      rw [zeroW_cells] at hmine hk1 hb1 hz1
      have HMI : Hid _ := hmine
      have HK1 : Hid _ := hk1
      have H1 : Hid (GoodR w _ l n) := HS.out.round hb1
      clear hmine hk1 hb1 hz1 hwa hwo hW
      cases hok : okW W with
      | false =>
        rw [hok] at CG
        have HR : Hid (R = false) := by
          cases hR : R with
          | false => rfl
          | true =>
            have := (HM.out.1 hR).2.1 W HWM.out
            rw [hok] at this; cases this
        clear hok
        go_wp2_with (first | (have hgo := HWA.out; clear hgo; refine wpList_load_wrt 20 (by rfl) (by rfl) _ (by rfl) b (o + n * 18) (by rfl) W KW.out HWA.out ?_) | (have hgo := HMI.out; clear hgo; refine wpList_store_wrt (.tmp 5) (by rfl) _ (by rfl) wr.heap.size 0 zeroW W (by rfl) (by rfl) KW.out HMI.out ?_; intro u2 hu; rw [← hu] at HK1 H1; clear hu HMI HWA) | (have hgo := HK1.out; clear hgo; refine wpList_load_wrt 21 (by rfl) (by rfl) _ (by rfl) wr.heap.size 0 (by rfl) W KW.out HK1.out.at_ ?_) | (go_at_call 68; refine (CG.out _).mono ?_; rintro e w3 ⟨rfl, hb3⟩; have H3 : Hid (GoodR w w3 l n) := H1.out.round hb3; clear hb3))
        go_ret
        exact ⟨by rw [HR.out]; rfl, H3.out.below⟩
      | true =>
        rw [hok] at CG
        have HOK : Hid (okW W = true) := hok
        clear hok
        go_wp2_with (first | (have hgo := HWA.out; clear hgo; refine wpList_load_wrt 20 (by rfl) (by rfl) _ (by rfl) b (o + n * 18) (by rfl) W KW.out HWA.out ?_) | (have hgo := HMI.out; clear hgo; refine wpList_store_wrt (.tmp 5) (by rfl) _ (by rfl) wr.heap.size 0 zeroW W (by rfl) (by rfl) KW.out HMI.out ?_; intro u2 hu; rw [← hu] at HK1 H1; clear hu HMI HWA) | (have hgo := HK1.out; clear hgo; refine wpList_load_wrt 21 (by rfl) (by rfl) _ (by rfl) wr.heap.size 0 (by rfl) W KW.out HK1.out.at_ ?_) | (go_at_call 68; refine (CG.out _).mono ?_; rintro e w3 ⟨rfl, hb3⟩; have H3 : Hid (GoodR w w3 l n) := H1.out.round hb3; have HK3 : Hid (KeyAt w3 wr.heap.size 0 W.k) := (HK1.out.past hb3).at_.key KW.out; clear hb3 HK1 H1) | (have hgo := HK3.out; clear hgo; refine wpList_load_key (by rfl) _ (by rfl) wr.heap.size 0 (by rfl) W.k KW.out HK3.out ?_) | (have hgo := HK3.out; clear hgo; obtain ⟨c, hcs, hcn⟩ := H3.out.set; refine wpList_store_set (by rfl) _ _ _ 108 (by rfl) 110 Try.underlying108 w.heap.size c ((l.take n).map (·.k)) (by rfl) hcs (by omega) W.k KW.out (by rfl) (by rfl) ?_; intro u3 c' hset3 hc3 htn; have H4 : Hid (GoodR w u3 l (n + 1)) := ⟨H3.out.below.grown htn.grown H3.out.below.size (fun j e => by injection e with e; rw [← e]; exact Nat.le_refl _), ⟨c', by rw [HT.out, List.map_append]; exact hset3, by omega⟩, fun V hV => by rw [HT.out] at hV; rcases List.mem_append.1 hV with e | e; exact H3.out.all V e; simp at e; rw [e]; exact HOK.out⟩; clear hset3 hc3 htn hcs hcn H3 HK3))
        go_roundw
        case rel => exact ⟨n + 1, by omega, by go_num, H4⟩
        case measure => simp [intOf]; omega
    · obtain rfl : n = N := by omega
      have HT : Hid (l.take n = l) := List.take_of_length_le (by rw [HL.out]; exact Nat.le_refl _)
      obtain ⟨c, hcs, hcn⟩ := HS.out.set
      rw [HT.out] at hcs
      have hlen := fun ty => hcs.len Try.underlying108 ty
      have hcount := hcs.count
      rw [List.length_map, HL.out] at hcount
      have HR : Hid (R = decide (c = n)) := by
        show R = _
        rw [Bool.eq_iff_iff, HM.out, decide_eq_true_eq, hcount]
        exact ⟨fun e => e.2.2, fun e => ⟨⟨by omega, by omega⟩, fun W hW => HS.out.all W (by rw [HT.out]; exact hW), e⟩⟩
      clear hcount hcs
      go_wp2_with ((with_reducible show wpList _ _ _ (Oper.mk (some 30) _ _ _ _ _ :: _) _ _); refine wpList_len_is 30 (by rfl) (by rfl) _ 108 (by rfl) w.heap.size _ (by rfl) hlen ?_)
      go_ret
      refine ⟨?_, HS.out.below⟩
      rw [HR.out]
      by_cases e : c = n
      · simp [e]
      · simp [e]; omega
end Go.Proofs.Ytcppihpehipelaa
