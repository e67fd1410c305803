/-
  What package write answers of writes: Good, GoodList.
  What package prep makes of one entry: Good, told (its writes copied), kept (each value copied too).
  What package prep makes of one entry: kept (its writes and each value copied), Good.
-/
import Derived.Test.YtileidbdmpeciaaGreatAu79
import Derived.Test.YtileidbdmpeciaaGreatAu84
import Derived.Test.YtileidbdmpeciaaGreatAu96
import Derived.Test.YtileidbdmpeciaaGreatAu110
import Derived.Test.YtileidbdmpeciaaGreatRefPrep6
import Derived.Test.YtileidbdmpeciaaGreatAu114
import Derived.Test.YtileidbdmpeciaaGreatShelf
namespace Go.Proofs.YtileidbdmpeciaaGreat
open Go.RowKit
set_option linter.unusedVariables false

theorem wpList_len_is (d : Tmp) {ops : Array Oper} {rest : List Oper} {op : Oper} {a : Act} {w : World} {Q : Exit → Act → World → Prop} (hd : op.dst = some d) (hw : Region.wanted op (yielded ops a.tmps) = true) (m : Operand) (t : TypeId) (ho : op.op = Op.call { callee := Callee.builtin Builtin.len, args := #[m], argTypes := #[t] })
    (b : Nat) (v : Value) (hm : a.eval m = .map (some b)) (hrun : ∀ ty, (Builtin.len_ #[t] ty #[.map (some b)]).run Tryz.prog w = .ok v w)
    (h : wpList Tryz.prog ops Q rest (a.put op.dst v) w) : wpList Tryz.prog ops Q (op :: rest) a w :=
  wpList_step fun K hK => by
    rw [if_pos hw]
    unfold Oper.wp
    simp [execOp, ho, resolve, invoke, builtin, hm, hrun, Result.andThen]
    exact hK _ _ h
theorem KSet.len {u : World} {m c : Nat} {l : List (List Int)} (h : KSet u m c l) {t e : TypeId} (ht : Tryz.prog.underlying t = some (.map 38 e)) (ty : TypeId) : (Builtin.len_ #[t] ty #[.map (some m)]).run Tryz.prog u = .ok (.int .i64 (c : Nat)) u := by
  obtain ⟨D, h1, h2, _⟩ := h
  rw [← h2]
  exact h1.len ht ty
theorem not_nodup {α : Type} : ∀ {l : List α}, ¬ l.Nodup → ∃ s a t, l = s ++ a :: t ∧ a ∈ s ++ t
  | [], h => absurd List.nodup_nil h
  | b :: r, h => by
    by_cases hb : b ∈ r
    · exact ⟨[], b, r, rfl, hb⟩
    · have hr : ¬ r.Nodup := fun e => h (List.nodup_cons.2 ⟨hb, e⟩)
      obtain ⟨s, a, t, e, ha⟩ := not_nodup hr
      exact ⟨b :: s, a, t, by rw [e]; rfl, List.mem_cons_of_mem _ ha⟩
theorem nodup_of_len {α : Type} {A B : List α} (hA : A.Nodup) (h : ∀ x, x ∈ A ↔ x ∈ B) (hl : A.length = B.length) : B.Nodup := by
  refine Classical.byContradiction (fun hn => ?_)
  obtain ⟨s, a, t, rfl, ha⟩ := not_nodup hn
  have := len_le_of_sub (m := s ++ t) hA (fun x hx => by
    rcases List.mem_append.1 ((h x).1 hx) with e | e
    · exact List.mem_append_left _ e
    · rcases List.mem_cons.1 e with e | e
      · rw [e]; exact ha
      · exact List.mem_append_right _ e)
  simp at this hl
  omega
theorem KSet.count {u : World} {m c : Nat} {l : List (List Int)} (h : KSet u m c l) : c = l.length ↔ l.Nodup := by
  obtain ⟨D, h1, h2, h3, h4⟩ := h
  obtain ⟨es, rfl, he, hk⟩ := h1.entries kLaw
  rw [Maps.size_eq] at h2
  have hn1 : (es.map (·.1)).Nodup := by
    unfold List.Nodup
    rw [List.pairwise_map]
    exact he
  have hh : ∀ x, x ∈ es.map (·.1) ↔ x ∈ l.map kyl := fun x => by
    rw [List.mem_map (l := l), ← h4, Maps.has_eq, List.any_eq_true]
    constructor
    · intro hx
      obtain ⟨p, hp, rfl⟩ := List.mem_map.1 hx
      exact ⟨p, hp, WideAt.sameKey_self (hk p hp)⟩
    · rintro ⟨p, hp, e⟩
      rw [← WideAt.sameKey_eq e]
      exact List.mem_map.2 ⟨p, hp, rfl⟩
  have hnd : (l.map kyl).Nodup ↔ l.Nodup := by
    unfold List.Nodup
    rw [List.pairwise_map]
    constructor
    · intro hp
      exact List.Pairwise.imp (fun hab e => hab (by rw [e])) hp
    · intro hp
      exact List.Pairwise.imp_of_mem (fun ha hb hab e => hab (kyl_inj (h3 _ ha) (h3 _ hb) e)) hp
  rw [← hnd]
  constructor
  · intro e
    exact nodup_of_len hn1 hh (by rw [List.length_map, List.length_map, h2, e])
  · intro hn
    have := len_eq_of_same hn1 hn hh
    rw [List.length_map, List.length_map, h2] at this
    exact this
theorem WrtAt.c0 {w : World} {b : Nat} {W : Wrt} (h : WrtAt w b 0 W) (hk : Ky W.k) : w.cell? ⟨b, 16, none⟩ = some (.string (strOfNums W.v)) ∧ w.cell? ⟨b, 17, none⟩ = some (.bool W.g) := by
  have := h.cells hk
  rw [Nat.zero_add, Nat.zero_add] at this
  exact this
/-- May a write be? -/
def okW (W : Wrt) : Bool := goodK W.k && decide (W.v.length ≤ 200) && (!W.g || decide (W.v = []))
set_option maxHeartbeats 2000000 in
theorem sgoodw_any (W : Wrt) (hW : WrtOk W) (w : World) :
    Calls Tryz.prog 123 #[wv W] w fun e w' => e = .returned (.bool (okW W)) ∧ Below w.heap.size w w' := by
  obtain ⟨U, hU⟩ : ∃ U, U = w.alloc (.cells (encW W).toArray 80) := ⟨_, rfl⟩
  have HUB : Hid (Below w.heap.size w U) := by rw [hU]; exact (Below.refl _ _).alloc (Nat.le_refl _) _
  have hmine : WrtMine U w.heap.size 0 W := by rw [hU]; exact WrtMine.made w 80 W hW.key
  have KY : Hid (Ky W.k) := hW.key
  have FK : Hid (KeyAt U w.heap.size 0 W.k) := hmine.at_.key hW.key
  have FB : Hid (∀ u, Below U.heap.size U u → Hid (Below w.heap.size w u) ∧ u.cell? ⟨w.heap.size, 16, none⟩ = some (.string (strOfNums W.v)) ∧ u.cell? ⟨w.heap.size, 17, none⟩ = some (.bool W.g)) := fun u hb => ⟨HUB.out.trans (hb.mono HUB.out.size), (hmine.at_.past hb).c0 hW.key⟩
  have CG : Hid (∀ u, Calls Tryz.prog 52 #[kv W.k] u fun e w' => e = .returned (.bool (goodK W.k)) ∧ Below u.heap.size u w') := fun u => kgood_any W.k hW.key u
  obtain ⟨S, hS⟩ : ∃ S, S = strOfNums W.v := ⟨_, rfl⟩
  obtain ⟨m, hm⟩ : ∃ m, m = W.v.length := ⟨_, rfl⟩
  have hsz : S.size = m := by rw [hS, hm]; exact strOfNums_size _
  have hfew : m ≤ 9223372036854775807 := by
    have := hW.few
    unfold maxLen at this
    rw [hm]
    exact Nat.le_trans this (by omega)
  have hemp : S.toList.isEmpty = decide (W.v = []) := by
    rw [hS, ByteArray.toList_eq, strOfNums_data]
    cases W.v with
    | nil => rfl
    | cons z r => simp
  obtain ⟨R, hR⟩ : ∃ R, R = okW W := ⟨_, rfl⟩
  have hok : R = (goodK W.k && decide (m ≤ 200) && (!W.g || decide (W.v = []))) := by rw [hR, hm]; rfl
  rw [← hS] at FB
  rw [← hR]
  generalize W.k = k at *
  generalize W.g = g at *
  generalize hv : W.v = v at *
  obtain ⟨C, hC⟩ : ∃ C, C = encW W := ⟨_, rfl⟩
  rw [← hC] at hU
  show Calls Tryz.prog 123 #[.agg (encW W).toArray] w fun e w' => e = .returned (.bool R) ∧ Below w.heap.size w w'
  rw [← hC]
  obtain ⟨HB0, y0, y1⟩ := FB.out U (Below.refl _ _)
  rw [hU] at y0 y1 FK HB0 FB
  have HUB2 := HB0
  clear hmine hR hm hS hv hU hC hW HUB
  cases g with
  | true =>
    by_cases h3 : v = []
    · rw [decide_eq_true h3] at hemp hok
      cases hg : goodK k with
      | true =>
        rw [hg] at CG hok
        by_cases h2 : m ≤ 200
        · have d2 : decide ((m : Int) ≤ 200) = true := decide_eq_true (by omega)
          have HR : Hid (R = true) := by rw [hok, decide_eq_true h2]; rfl
          clear hok h3 h2 hg
          go_enter Tryz.func123, Tryz.ntmps123
          go_wp2_with (first | (refine wpList_load_keyD 11 (by rfl) (by rfl) _ (by rfl) w.heap.size 0 (by rfl) k KY.out FK.out ?_) | (go_at_call 52; refine (CG.out _).mono ?_; rintro e w1 ⟨rfl, hb1⟩; obtain ⟨B1, r0, r1⟩ := FB.out w1 hb1; clear hb1))
          go_ret
          exact ⟨by rw [HR.out]; rfl, B1.out⟩
        · have d2 : decide ((m : Int) ≤ 200) = false := decide_eq_false (by omega)
          have HR : Hid (R = false) := by rw [hok, decide_eq_false h2]; rfl
          clear hok h3 h2 hg
          go_enter Tryz.func123, Tryz.ntmps123
          go_wp2_with (first | (refine wpList_load_keyD 11 (by rfl) (by rfl) _ (by rfl) w.heap.size 0 (by rfl) k KY.out FK.out ?_) | (go_at_call 52; refine (CG.out _).mono ?_; rintro e w1 ⟨rfl, hb1⟩; obtain ⟨B1, r0, r1⟩ := FB.out w1 hb1; clear hb1))
          go_ret
          exact ⟨by rw [HR.out]; rfl, B1.out⟩
      | false =>
        rw [hg] at CG hok
        have HR : Hid (R = false) := by rw [hok]; rfl
        clear hok h3 hg
        go_enter Tryz.func123, Tryz.ntmps123
        go_wp2_with (first | (refine wpList_load_keyD 11 (by rfl) (by rfl) _ (by rfl) w.heap.size 0 (by rfl) k KY.out FK.out ?_) | (go_at_call 52; refine (CG.out _).mono ?_; rintro e w1 ⟨rfl, hb1⟩; obtain ⟨B1, r0, r1⟩ := FB.out w1 hb1; clear hb1))
        go_ret
        exact ⟨by rw [HR.out]; rfl, B1.out⟩
    · rw [decide_eq_false h3] at hemp hok
      have HR : Hid (R = false) := by show R = false; rw [hok]; simp
      clear hok h3
      go_enter Tryz.func123, Tryz.ntmps123
      go_wp2
      go_ret
      exact ⟨by rw [HR.out]; rfl, HUB2.out⟩
  | false =>
    cases hg : goodK k with
    | true =>
      rw [hg] at CG hok
      by_cases h2 : m ≤ 200
      · have d2 : decide ((m : Int) ≤ 200) = true := decide_eq_true (by omega)
        have HR : Hid (R = true) := by rw [hok, decide_eq_true h2]; rfl
        clear hok h2 hg
        go_enter Tryz.func123, Tryz.ntmps123
        go_wp2_with (first | (refine wpList_load_keyD 11 (by rfl) (by rfl) _ (by rfl) w.heap.size 0 (by rfl) k KY.out FK.out ?_) | (go_at_call 52; refine (CG.out _).mono ?_; rintro e w1 ⟨rfl, hb1⟩; obtain ⟨B1, r0, r1⟩ := FB.out w1 hb1; clear hb1))
        go_ret
        exact ⟨by rw [HR.out]; rfl, B1.out⟩
      · have d2 : decide ((m : Int) ≤ 200) = false := decide_eq_false (by omega)
        have HR : Hid (R = false) := by rw [hok, decide_eq_false h2]; rfl
        clear hok h2 hg
        go_enter Tryz.func123, Tryz.ntmps123
        go_wp2_with (first | (refine wpList_load_keyD 11 (by rfl) (by rfl) _ (by rfl) w.heap.size 0 (by rfl) k KY.out FK.out ?_) | (go_at_call 52; refine (CG.out _).mono ?_; rintro e w1 ⟨rfl, hb1⟩; obtain ⟨B1, r0, r1⟩ := FB.out w1 hb1; clear hb1))
        go_ret
        exact ⟨by rw [HR.out]; rfl, B1.out⟩
    | false =>
      rw [hg] at CG hok
      have HR : Hid (R = false) := by rw [hok]; rfl
      clear hok hg
      go_enter Tryz.func123, Tryz.ntmps123
      go_wp2_with (first | (refine wpList_load_keyD 11 (by rfl) (by rfl) _ (by rfl) w.heap.size 0 (by rfl) k KY.out FK.out ?_) | (go_at_call 52; refine (CG.out _).mono ?_; rintro e w1 ⟨rfl, hb1⟩; obtain ⟨B1, r0, r1⟩ := FB.out w1 hb1; clear hb1))
      go_ret
      exact ⟨by rw [HR.out]; rfl, B1.out⟩
/-- What GoodList's rounds hold. -/
structure GoodR (w u : World) (l : List Wrt) (n : Nat) : Prop where
  below : Below w.heap.size w u
  set : ∃ c, KSet u w.heap.size c ((l.take n).map (·.k)) ∧ c ≤ n
  all : ∀ W ∈ l.take n, okW W = true
theorem GoodR.round {w u : World} {l : List Wrt} {n : Nat} (h : GoodR w u l n) {u2 : World} (hb : Below u.heap.size u u2) : GoodR w u2 l n :=
  ⟨h.below.trans (hb.mono h.below.size), by obtain ⟨c, h1, h2⟩ := h.set; exact ⟨c, h1.past hb, h2⟩, h.all⟩
theorem may_all {l : List Wrt} : mayW l 1 = true ↔ (1 ≤ l.length ∧ l.length ≤ 16) ∧ (∀ W ∈ l, okW W = true) ∧ (l.map (·.k)).Nodup := by
  unfold mayW List.Nodup
  simp only [Bool.and_eq_true, decide_eq_true_eq, List.all_eq_true, List.pairwise_map, and_assoc]
  unfold okW
  simp only [Bool.and_eq_true, decide_eq_true_eq, and_assoc]
set_option maxHeartbeats 4000000 in
set_option maxRecDepth 4000 in
theorem sgoods_any (a : Option Addr) (N cap : Nat) (l : List Wrt) (w : World) (hl : l.length = N) (hc : N ≤ cap) (hN : N ≤ 1000000) (hat : WrtsAt w a l) :
    Calls Tryz.prog 82 #[.slice a N cap] w fun e w' => e = .returned (.bool (mayW l 1)) ∧ Below w.heap.size w w' := by
  obtain ⟨R, hR⟩ : ∃ R, R = mayW l 1 := ⟨_, rfl⟩
  rw [← hR]
  have hmay := may_all (l := l)
  rw [← hR, hl] at hmay
  by_cases h0 : N = 0
  · have HR : Hid (R = false) := by
      cases R with
      | false => rfl
      | true => exfalso; have := (hmay.1 rfl).1.1; omega
    subst h0
    clear hmay hR hat hl
    go_enter Tryz.func82, Tryz.ntmps82
    go_wp2
    go_ret
    exact ⟨by rw [HR.out]; rfl, Below.refl _ _⟩
  by_cases h16 : 16 < N
  · have HR : Hid (R = false) := by
      cases R with
      | false => rfl
      | true => exfalso; have := (hmay.1 rfl).1.2; omega
    have d1 : ¬ ((N : Int) = 0) := by omega
    have d2 : (16 : Int) < (N : Int) := by omega
    clear hmay hR hat hl
    go_enter Tryz.func82, Tryz.ntmps82
    go_wp2
    go_ret
    exact ⟨by rw [HR.out]; rfl, Below.refl _ _⟩
  have HL : Hid (l.length = N) := hl
  have HA : Hid (WrtsAt w a l) := hat
  have H0 : Hid (GoodR w (w.alloc (.map #[] 0)) l 0) := ⟨(Below.refl _ _).alloc (Nat.le_refl _) _, ⟨0, by rw [List.take_zero]; exact KSet.made w, Nat.le_refl _⟩, fun W hW => by simp at hW⟩
  have HM : Hid (R = true ↔ (1 ≤ N ∧ N ≤ 16) ∧ (∀ W ∈ l, okW W = true) ∧ (l.map (·.k)).Nodup) := hmay
  have d1 : ¬ ((N : Int) = 0) := by omega
  have d2 : ¬ (16 : Int) < (N : Int) := by omega
  have hmm := @run_makeMap Tryz.prog
  clear hmay hR hat hl
  go_enter Tryz.func82, Tryz.ntmps82
  go_wp2
  generalize hU : w.alloc (.map #[] 0) = u at *
  clear hU hmm
  go_loopw [17] (fun i wr => ∃ n : Nat, n ≤ N ∧ i = .int .i64 n ∧ Hid (GoodR w wr l n)) (fun i _ => N - (intOf i).toNat)
  case atStart => exact ⟨0, Nat.zero_le _, rfl, H0⟩
  case round =>
    obtain ⟨n, hn, rfl, HS⟩ := hrel
    have hn0 : (0 : Int) ≤ (n : Int) := by omega
    by_cases hlt : n < N
    · have h1 : (n : Int) < (N : Int) := by omega
      obtain ⟨W, hW⟩ : ∃ W, l[n]? = some W := ⟨_, List.getElem?_eq_getElem (by rw [HL.out]; exact hlt)⟩
      obtain ⟨b, o, rfl, hwa, hwo⟩ := (HA.out.past (w' := wr) HS.out.below).wrt hW
      have HWA : Hid (WrtAt wr b (o + n * 18) W) := hwa
      have HT : Hid (l.take (n + 1) = l.take n ++ [W]) := by show _ = _; rw [List.take_add_one, hW]; rfl
      have HWM : Hid (W ∈ l) := List.mem_of_getElem? hW
      have KW : Hid (Ky W.k) := hwo.key
      have CG : Hid (∀ u, Calls Tryz.prog 123 #[wv W] u fun e w' => e = .returned (.bool (okW W)) ∧ Below u.heap.size u w') := fun u => sgoodw_any W hwo u
      have hmine := WrtMine.made wr 80 zeroW zeroW_ky
      obtain ⟨hk1, hb1, hz1⟩ := laid_wrt wr 80 (W := W) hwo.key
      rw [zeroW_cells] at hmine hk1 hb1 hz1
      have HMI : Hid _ := hmine
      have HK1 : Hid _ := hk1
      have H1 : Hid (GoodR w _ l n) := HS.out.round hb1
      clear hmine hk1 hb1 hz1 hwa hwo hW
      cases hok : okW W with
      | false =>
        rw [hok] at CG
        have HR : Hid (R = false) := by
          cases hR : R with
          | false => rfl
          | true =>
            have := (HM.out.1 hR).2.1 W HWM.out
            rw [hok] at this; cases this
        clear hok
        go_wp2_with (first | (have hgo := HWA.out; clear hgo; refine wpList_load_wrt 20 (by rfl) (by rfl) _ (by rfl) b (o + n * 18) (by rfl) W KW.out HWA.out ?_) | (have hgo := HMI.out; clear hgo; refine wpList_store_wrt (.tmp 5) (by rfl) _ (by rfl) wr.heap.size 0 zeroW W (by rfl) (by rfl) KW.out HMI.out ?_; intro u2 hu; rw [← hu] at HK1 H1; clear hu HMI HWA) | (have hgo := HK1.out; clear hgo; refine wpList_load_wrt 21 (by rfl) (by rfl) _ (by rfl) wr.heap.size 0 (by rfl) W KW.out HK1.out.at_ ?_) | (go_at_call 123; refine (CG.out _).mono ?_; rintro e w3 ⟨rfl, hb3⟩; have H3 : Hid (GoodR w w3 l n) := H1.out.round hb3; clear hb3))
        go_ret
        exact ⟨by rw [HR.out]; rfl, H3.out.below⟩
      | true =>
        rw [hok] at CG
        have HOK : Hid (okW W = true) := hok
        clear hok
        go_wp2_with (first | (have hgo := HWA.out; clear hgo; refine wpList_load_wrt 20 (by rfl) (by rfl) _ (by rfl) b (o + n * 18) (by rfl) W KW.out HWA.out ?_) | (have hgo := HMI.out; clear hgo; refine wpList_store_wrt (.tmp 5) (by rfl) _ (by rfl) wr.heap.size 0 zeroW W (by rfl) (by rfl) KW.out HMI.out ?_; intro u2 hu; rw [← hu] at HK1 H1; clear hu HMI HWA) | (have hgo := HK1.out; clear hgo; refine wpList_load_wrt 21 (by rfl) (by rfl) _ (by rfl) wr.heap.size 0 (by rfl) W KW.out HK1.out.at_ ?_) | (go_at_call 123; refine (CG.out _).mono ?_; rintro e w3 ⟨rfl, hb3⟩; have H3 : Hid (GoodR w w3 l n) := H1.out.round hb3; have HK3 : Hid (KeyAt w3 wr.heap.size 0 W.k) := (HK1.out.past hb3).at_.key KW.out; clear hb3 HK1 H1) | (have hgo := HK3.out; clear hgo; refine wpList_load_key (by rfl) _ (by rfl) wr.heap.size 0 (by rfl) W.k KW.out HK3.out ?_) | (have hgo := HK3.out; clear hgo; obtain ⟨c, hcs, hcn⟩ := H3.out.set; refine wpList_store_set (by rfl) _ _ _ 144 (by rfl) 145 Tryz.underlying144 w.heap.size c ((l.take n).map (·.k)) (by rfl) hcs (by omega) W.k KW.out (by rfl) (by rfl) ?_; intro u3 c' hset3 hc3 htn; have H4 : Hid (GoodR w u3 l (n + 1)) := ⟨H3.out.below.grown htn.grown H3.out.below.size (fun j e => by injection e with e; rw [← e]; exact Nat.le_refl _), ⟨c', by rw [HT.out, List.map_append]; exact hset3, by omega⟩, fun V hV => by rw [HT.out] at hV; rcases List.mem_append.1 hV with e | e; exact H3.out.all V e; simp at e; rw [e]; exact HOK.out⟩; clear hset3 hc3 htn hcs hcn H3 HK3))
        go_roundw
        case rel => exact ⟨n + 1, by omega, by go_num, H4⟩
        case measure => simp [intOf]; omega
    · obtain rfl : n = N := by omega
      have HT : Hid (l.take n = l) := List.take_of_length_le (by rw [HL.out]; exact Nat.le_refl _)
      obtain ⟨c, hcs, hcn⟩ := HS.out.set
      rw [HT.out] at hcs
      have hlen := fun ty => hcs.len Tryz.underlying144 ty
      have hcount := hcs.count
      rw [List.length_map, HL.out] at hcount
      have HR : Hid (R = decide (c = n)) := by
        show R = _
        rw [Bool.eq_iff_iff, HM.out, decide_eq_true_eq, hcount]
        exact ⟨fun e => e.2.2, fun e => ⟨⟨by omega, by omega⟩, fun W hW => HS.out.all W (by rw [HT.out]; exact hW), e⟩⟩
      clear hcount hcs
      go_wp2_with ((with_reducible show wpList _ _ _ (Oper.mk (some 30) _ _ _ _ _ :: _) _ _); refine wpList_len_is 30 (by rfl) (by rfl) _ 144 (by rfl) w.heap.size _ (by rfl) hlen ?_)
      go_ret
      refine ⟨?_, HS.out.below⟩
      rw [HR.out]
      by_cases e : c = n
      · simp [e]
      · simp [e]; omega
end Go.Proofs.YtileidbdmpeciaaGreat

namespace Go.Proofs.YtileidbdmpeciaaGreat
open Go.RowKit
set_option linter.unusedVariables false

theorem pstr_any (s : ByteArray) (w : World) (hs : s.size ≤ 281474976710656) :
    Calls Tryz.prog 131 #[.string s] w fun e w' => e = .returned (.string s) ∧ Below w.heap.size w w' := by
  have CC : Hid (Calls Tryz.prog 156 #[.string s] w fun e w' => e = .returned (.string s) ∧ Below w.heap.size w w') := Go.Proofs.Tryz.stringslite_Clone s w hs
  go_enter Tryz.func131, Tryz.ntmps131
  go_wp2_with (go_at_call 156; refine CC.out.mono ?_; rintro e w1 ⟨rfl, hb1⟩; have HB1 : Hid (Below w.heap.size w w1) := hb1; clear hb1)
  go_ret
  exact ⟨rfl, HB1.out⟩
set_option maxHeartbeats 2000000 in
theorem pclone_any (a : Option Addr) (N c : Nat) (l : List Wrt) (w : World) (hl : l.length = N) (hc : N ≤ c) (hN : N ≤ 1000000) (hat : WrtsAt w a l) :
    Calls Tryz.prog 132 #[.slice a N c] w fun e w' => (∃ a' c', e = .returned (.slice a' N c') ∧ w'.ownsRow w.heap.size 80 18 (.slice a' N c') N (l.flatMap encW)) ∧ Below w.heap.size w w' := by
  have q : ∀ (w : World) (a : Option Addr) (n c n' c' : Nat), (binOp .eql 29 (.slice a n c) (.slice none n' c')).run Tryz.prog w = .ok (.bool a.isNone) w := fun w a n c n' c' => Lib.run_eql_slice_nil w _ _ a n c n' c' Tryz.underlying29
  cases a with
  | none =>
    have hL : l = [] := by
      rcases hat.cells with e | ⟨b, o, e, _⟩
      · exact e
      · cases e
    subst hL
    obtain rfl : N = 0 := hl.symm
    clear hat hl
    go_enter Tryz.func132, Tryz.ntmps132
    go_wp2
    go_ret
    exact ⟨⟨none, 0, rfl, World.ownsRow_nil _ _ _ _⟩, Below.refl _ _⟩
  | some ad =>
    have HB : Hid (Below w.heap.size w (w.alloc (.cells #[] 80))) := (Below.refl _ _).alloc (Nat.le_refl _) _
    have HS : Hid (Lies (w.alloc (.cells #[] 80)) (some ad) (l.flatMap encW)) := (hat.past HB.out).lies
    have HO : Hid ((w.alloc (.cells #[] 80)).ownsRow w.heap.size 80 18 (.slice (some ⟨w.heap.size, 0, none⟩) 0 0) 0 []) := World.ownsRow_made w #[] 0 (Nat.le_refl _) (by unfold maxLen; omega) (by simp)
    have HL : Hid ((l.flatMap encW).length = N * 18) := by
      show _ = _
      rw [← hl]
      exact flat_len l (fun W hW => encW_len (hat.oks W hW).key)
    have HZ : Hid (0 + N = N) := Nat.zero_add N
    clear hat hl
    go_enter Tryz.func132, Tryz.ntmps132
    go_wp2_with (at_builtin; refine wpList_append_els wrtEl (w0 := w) rfl _ _ rfl HB.out _ 0 [] (l.flatMap encW) rfl HO.out _ N c rfl HL.out HS.out (encWs_one l) (fun h => by cases h) (by omega) ?_; intro a' c' w' h1 h2 h3; rw [HZ.out, List.nil_append] at h1; have H1 : Hid (w'.ownsRow w.heap.size 80 18 (.slice a' N c') N (l.flatMap encW)) := h1; have H3 : Hid (Below w.heap.size w w') := h3; clear h1 h2 h3; rw [HZ.out])
    go_wp2
    go_ret
    exact ⟨⟨a', c', rfl, H1.out⟩, H3.out⟩
/-- An entry in a box, its list of writes laid anew. -/
theorem EntMine.set5 {u : World} {b : Nat} {x : EntM} (h : EntMine u b x) (a' : Option Addr) (c' : Nat) : EntMine (u.setCell ⟨b, 5, none⟩ (.slice a' x.e.l.length c')) b ⟨x.e, a', c'⟩ := by
  obtain ⟨y0, y1, y2, y3, y4, y5⟩ := h.at_.cells
  rw [Nat.zero_add] at y1 y2 y3 y4 y5
  have hother : ∀ o, o ≠ 5 → (u.setCell ⟨b, 5, none⟩ (.slice a' x.e.l.length c')).cell? ⟨b, o, none⟩ = u.cell? ⟨b, o, none⟩ := fun o hne => World.cell?_setCell_other _ _ _ _ (by intro e; injection e with e1 e2; exact hne e2.symm)
  have hsame := World.cell?_setCell_same u ⟨b, 5, none⟩ (.slice a' x.e.l.length c') y5
  refine ⟨⟨lies_of fun j v hj => ?_⟩, fun i hi => by rw [World.frozen?_setCell]; exact h.free i hi⟩
  rw [Nat.zero_add]
  have hj6 : j < 6 := by have := (List.getElem?_eq_some_iff.1 hj).1; rwa [encE_len] at this
  have hj' : j = 0 ∨ j = 1 ∨ j = 2 ∨ j = 3 ∨ j = 4 ∨ j = 5 := by omega
  rcases hj' with rfl | rfl | rfl | rfl | rfl | rfl <;> (injection hj with hj; rw [← hj])
  · rw [hother 0 (by omega)]; exact y0
  · rw [hother 1 (by omega)]; exact y1
  · rw [hother 2 (by omega)]; exact y2
  · rw [hother 3 (by omega)]; exact y3
  · rw [hother 4 (by omega)]; exact y4
  · exact hsame
/-- An entry and an empty one in boxes. -/
theorem two_ents (w : World) (x : EntM) (T T' : TypeId) : EntMine ((w.alloc (.cells (encE x).toArray T)).alloc (.cells (encE zeroE).toArray T')) w.heap.size x ∧ EntMine ((w.alloc (.cells (encE x).toArray T)).alloc (.cells (encE zeroE).toArray T')) (w.heap.size + 1) zeroE ∧ Below w.heap.size w ((w.alloc (.cells (encE x).toArray T)).alloc (.cells (encE zeroE).toArray T')) ∧ ((w.alloc (.cells (encE x).toArray T)).alloc (.cells (encE zeroE).toArray T')).heap.size = w.heap.size + 2 := by
  obtain ⟨u1, h1⟩ : ∃ u, u = w.alloc (.cells (encE x).toArray T) := ⟨_, rfl⟩
  have e1 : u1.heap.size = w.heap.size + 1 := by rw [h1]; simp
  have k1 : EntMine u1 w.heap.size x := by rw [h1]; exact EntMine.made w T x
  have b1 : Below w.heap.size w u1 := by rw [h1]; exact (Below.refl _ _).alloc (Nat.le_refl _) _
  rw [← h1]
  have b2 : Below u1.heap.size u1 (u1.alloc (.cells (encE zeroE).toArray T')) := (Below.refl _ _).alloc (Nat.le_refl _) _
  refine ⟨k1.past b2, ?_, b1.trans (b2.mono b1.size), by simp [e1]⟩
  have := EntMine.made u1 T' zeroE
  rw [e1] at this
  exact this
set_option maxHeartbeats 4000000 in
set_option maxRecDepth 4000 in
theorem ptold_any (x : EntM) (w : World) (hx : EntW w x) :
    Calls Tryz.prog 93 #[ev x] w fun e w' => ∃ a' c', e = .returned (ev ⟨x.e, a', c'⟩) ∧ w'.ownsRow (w.heap.size + 2) 80 18 (.slice a' x.e.l.length c') x.e.l.length (x.e.l.flatMap encW) ∧ Below w.heap.size w w' := by
  obtain ⟨m1, m2, hb, hsz⟩ := two_ents w x 31 31
  obtain ⟨V0, hV0⟩ : ∃ V, V = (w.alloc (.cells (encE x).toArray 31)).alloc (.cells (encE zeroE).toArray 31) := ⟨_, rfl⟩
  rw [← hV0] at m1 m2 hb hsz
  have CC : Hid (Calls Tryz.prog 132 #[.slice x.a x.e.l.length x.c] V0 fun e w' => (∃ a' c', e = .returned (.slice a' x.e.l.length c') ∧ w'.ownsRow V0.heap.size 80 18 (.slice a' x.e.l.length c') x.e.l.length (x.e.l.flatMap encW)) ∧ Below V0.heap.size V0 w') := pclone_any x.a x.e.l.length x.c x.e.l V0 rfl hx.room hx.few (hx.wr.past hb)
  have HB : Hid (Below w.heap.size w V0) := hb
  have HSZ : Hid (V0.heap.size = w.heap.size + 2) := hsz
  have HV0 : Hid ((w.alloc (.cells #[.int .i64 x.e.id, .int .i64 x.e.s, .int .u8 x.e.m, .int .i64 x.e.t, .int .u8 x.e.n, .slice x.a x.e.l.length x.c] 31)).alloc (.cells #[.int .i64 0, .int .i64 0, .int .u8 0, .int .i64 0, .int .u8 0, .slice none 0 0] 31) = V0) := hV0.symm
  have HM : Hid (∀ u, Below V0.heap.size V0 u → Hid (EntMine u w.heap.size x ∧ EntMine u (w.heap.size + 1) zeroE) ∧ u.cell? ⟨w.heap.size, 5, none⟩ = some (.slice x.a x.e.l.length x.c) ∧ u.frozen? ⟨w.heap.size, 5, none⟩ = false) := fun u hu => by
    have h1 := m1.past hu
    have h5 := h1.at_.cells.2.2.2.2.2
    have h6 := h1.free 5 (by omega)
    rw [Nat.zero_add] at h5 h6
    exact ⟨⟨h1, m2.past hu⟩, h5, h6⟩
  have HEND : Hid (∀ (u : World) (a' : Option Addr) (c' : Nat), Below V0.heap.size V0 u → EntMine (u.setCell ⟨w.heap.size, 5, none⟩ (.slice a' x.e.l.length c')) w.heap.size ⟨x.e, a', c'⟩ ∧ EntMine (u.setCell ⟨w.heap.size, 5, none⟩ (.slice a' x.e.l.length c')) (w.heap.size + 1) zeroE) := fun u a' c' hu =>
    ⟨(m1.past hu).set5 a' c', (m2.past hu).kept (Below.heap_setCell _ ⟨w.heap.size, 5, none⟩ _ _ (by show w.heap.size + 1 ≠ w.heap.size; omega))⟩
  have HK5 : Hid (∀ (u : World) (v : Value) (k : Nat), k ≠ w.heap.size → (u.setCell ⟨w.heap.size, 5, none⟩ v).heap[k]? = u.heap[k]?) := fun u v k hne => Below.heap_setCell _ ⟨w.heap.size, 5, none⟩ _ k hne
  show Calls Tryz.prog 93 #[.agg #[.int .i64 x.e.id, .int .i64 x.e.s, .int .u8 x.e.m, .int .i64 x.e.t, .int .u8 x.e.n, .slice x.a x.e.l.length x.c]] w _
  obtain ⟨L1, hL1⟩ : ∃ L, L = x.e.l.length := ⟨_, rfl⟩
  rw [← hL1] at CC HV0 HM HEND ⊢
  clear m1 m2 hb hsz hV0 hx hL1
  go_enter Tryz.func93, Tryz.ntmps93
  go_wp2_with (first | (go_at_call 132; rw [HV0.out]; refine CC.out.mono ?_; rintro e w1 ⟨⟨a1, c1, rfl, ho1⟩, hb1⟩; have HO : Hid (w1.ownsRow V0.heap.size 80 18 (.slice a1 L1 c1) L1 (x.e.l.flatMap encW)) := ho1; have B1 : Hid (Below V0.heap.size V0 w1) := hb1; obtain ⟨HMM, y5, f5⟩ := HM.out w1 hb1; obtain ⟨g1, g2⟩ := HEND.out w1 a1 c1 hb1; have HE1 : Hid _ := g1; have HE2 : Hid _ := g2; clear ho1 hb1 g1 g2 CC) | ((with_reducible show wpList _ _ _ (Oper.mk (some 7) _ _ _ _ _ :: _) _ _); refine wpList_load_pent 7 (by rfl) (by rfl) _ (by rfl) w.heap.size 0 (by rfl) ⟨x.e, a1, c1⟩ HE1.out.at_ ?_) | (have hgo := HE2.out; clear hgo; refine wpList_store_pent (.tmp 2) (by rfl) _ (by rfl) (w.heap.size + 1) zeroE ⟨x.e, a1, c1⟩ (by rfl) (by rfl) HE2.out ?_; intro u2 hu; have HM2 : Hid (EntMine u2 (w.heap.size + 1) ⟨x.e, a1, c1⟩) := hu ▸ HE2.out.store; have HU2 : Hid (u2 = (w1.setCell ⟨w.heap.size, 5, none⟩ (.slice a1 L1 c1)).setCells (w.heap.size + 1) 0 (encE ⟨x.e, a1, c1⟩)) := hu; clear hu))
  refine bodyPost_ret (results_pent1 rfl _ _ (w.heap.size + 1) ⟨x.e, a1, c1⟩ rfl HM2.out.at_) rfl ?_
  have hb1 : Below w.heap.size w w1 := HB.out.trans (B1.out.mono HB.out.size)
  have hb2 : Below w.heap.size w u2 := by rw [HU2.out]; exact below_cells (Nat.le_succ _) (hb1.setCell (Nat.le_refl _) _)
  refine ⟨a1, c1, rfl, ?_, hb2⟩
  rw [HSZ.out] at HO
  refine row_keptT HO.out (fun k e => ?_)
  have := (HO.out.lt k e).1
  rw [HU2.out, cells_else (w := w) (by omega), HK5.out _ _ _ (by omega)]
end Go.Proofs.YtileidbdmpeciaaGreat

namespace Go.Proofs.YtileidbdmpeciaaGreat
open Go.RowKit
set_option linter.unusedVariables false

/-- What kept's rounds hold. -/
structure KpR (w u : World) (x : EntM) (a' : Option Addr) (c' : Nat) : Prop where
  below : Below w.heap.size w u
  box : EntMine u w.heap.size ⟨x.e, a', c'⟩
  res : EntMine u (w.heap.size + 1) zeroE
  row : u.ownsRow (w.heap.size + 2) 80 18 (.slice a' x.e.l.length c') x.e.l.length (x.e.l.flatMap encW)
theorem KpR.past {w u u' : World} {x : EntM} {a' : Option Addr} {c' : Nat} (h : KpR w u x a' c') (hb : Below u.heap.size u u') : KpR w u' x a' c' :=
  ⟨h.below.trans (hb.mono h.below.size), h.box.past hb, h.res.past hb, row_keptT h.row (fun k e => hb.block k (h.row.lt k e).2)⟩
theorem row_freeP {u : World} {B e size n : Nat} {v : Value} {xs : List Value} (h : u.ownsRow B e size v n xs) {g o : Nat} (hg : v.ownBlock = some g) : u.frozen? ⟨g, o, none⟩ = false := by
  rcases h.2 with ⟨e1, _⟩ | ⟨g', cap, cur, e1, _, hh, _⟩
  · rw [e1] at hg; cases hg
  · rw [e1] at hg
    have : g' = g := by simpa [Value.ownBlock] using hg
    subst this
    simp [World.frozen?, hh]
/-- Write i of the copied list, in every world behind. -/
theorem KpR.wrt {w u : World} {x : EntM} {a' : Option Addr} {c' : Nat} (h : KpR w u x a' c') (hx : ∀ W ∈ x.e.l, WrtOk W) {i : Nat} {W : Wrt} (hW : x.e.l[i]? = some W) : ∃ g, a' = some ⟨g, 0, none⟩ ∧ Hid (∀ v, Below u.heap.size u v → WrtAt v g (i * 18) W ∧ v.frozen? ⟨g, i * 18 + 16, none⟩ = false ∧ v.cell? ⟨g, i * 18 + 16, none⟩ = some (.string (strOfNums W.v))) := by
  rcases h.row.2 with ⟨e1, e2⟩ | ⟨g, cap, cur, e1, hg, hh, e5, _⟩
  · rw [List.eq_nil_of_length_eq_zero e2] at hW
    simp at hW
  · injection e1 with x1 x2 x3
    subst x1
    refine ⟨g, rfl, fun v hv => ?_⟩
    have hr := (h.past hv).row
    have hl := (own_lies hr).el (size := 18) (fun y hy => encW_len (hx y hy).key) hW
    rw [Nat.zero_add] at hl
    have hat : WrtAt v g (i * 18) W := ⟨hl⟩
    exact ⟨hat, row_freeP hr rfl, (hat.cells (hx W (List.mem_of_getElem? hW)).key).1⟩
theorem entmine5 {u : World} {b : Nat} {x : EntM} (h : EntMine u b x) : u.cell? ⟨b, 5, none⟩ = some (.slice x.a x.e.l.length x.c) := by
  have h5 := h.at_.cells.2.2.2.2.2
  rwa [Nat.zero_add] at h5
set_option maxHeartbeats 4000000 in
set_option maxRecDepth 4000 in
theorem pkept_any (x : EntM) (w : World) (hx : EntW w x) (hv : ∀ W ∈ x.e.l, W.v.length ≤ 200) :
    Calls Tryz.prog 92 #[ev x] w fun e w' => ∃ a' c', e = .returned (ev ⟨x.e, a', c'⟩) ∧ w'.ownsRow (w.heap.size + 2) 80 18 (.slice a' x.e.l.length c') x.e.l.length (x.e.l.flatMap encW) ∧ Below w.heap.size w w' := by
  obtain ⟨m1, m2, hb, hsz⟩ := two_ents w x 31 31
  obtain ⟨V0, hV0⟩ : ∃ V, V = (w.alloc (.cells (encE x).toArray 31)).alloc (.cells (encE zeroE).toArray 31) := ⟨_, rfl⟩
  rw [← hV0] at m1 m2 hb hsz
  obtain ⟨N, hN⟩ : ∃ N, N = x.e.l.length := ⟨_, rfl⟩
  have CT : Hid (Calls Tryz.prog 93 #[ev x] V0 fun e w' => ∃ a' c', e = .returned (ev ⟨x.e, a', c'⟩) ∧ w'.ownsRow (V0.heap.size + 2) 80 18 (.slice a' x.e.l.length c') x.e.l.length (x.e.l.flatMap encW) ∧ Below V0.heap.size V0 w') := ptold_any x V0 (hx.past hb)
  have HB : Hid (Below w.heap.size w V0) := hb
  have HM1 : Hid (EntMine V0 w.heap.size x) := m1
  have HV0 : Hid ((w.alloc (.cells #[.int .i64 x.e.id, .int .i64 x.e.s, .int .u8 x.e.m, .int .i64 x.e.t, .int .u8 x.e.n, .slice x.a N x.c] 31)).alloc (.cells #[.int .i64 0, .int .i64 0, .int .u8 0, .int .i64 0, .int .u8 0, .slice none 0 0] 31) = V0) := by rw [hN]; exact hV0.symm
  have HST : Hid (∀ (u : World) (a' : Option Addr) (c' : Nat), Below V0.heap.size V0 u → u.ownsRow (V0.heap.size + 2) 80 18 (.slice a' x.e.l.length c') x.e.l.length (x.e.l.flatMap encW) → EntMine u w.heap.size x ∧ KpR w (u.setCells w.heap.size 0 (encE ⟨x.e, a', c'⟩)) x a' c') := fun u a' c' hu ho => by
    have hk : ∀ k, k ≠ w.heap.size → (u.setCells w.heap.size 0 (encE ⟨x.e, a', c'⟩)).heap[k]? = u.heap[k]? := fun k hne => cells_else (w := w) hne _ _ _
    refine ⟨m1.past hu, ⟨below_cells (Nat.le_refl _) (hb.trans (hu.mono hb.size)), (m1.past hu).store, (m2.past hu).kept (hk _ (by omega)), ?_⟩⟩
    refine row_keptT (own_downT ho (by omega)) (fun k e => hk k ?_)
    have := (ho.lt k e).1
    omega
  have HOK : Hid (∀ W ∈ x.e.l, WrtOk W) := hx.wr.oks
  have HVL : Hid (∀ W ∈ x.e.l, W.v.length ≤ 200) := hv
  have HN : Hid (x.e.l.length = N) := hN.symm
  have hfew : N ≤ 1000000 := by rw [hN]; exact hx.few
  show Calls Tryz.prog 92 #[.agg #[.int .i64 x.e.id, .int .i64 x.e.s, .int .u8 x.e.m, .int .i64 x.e.t, .int .u8 x.e.n, .slice x.a x.e.l.length x.c]] w _
  rw [← hN]
  clear m1 m2 hb hsz hV0 hx hN hv
  go_enter Tryz.func92, Tryz.ntmps92
  go_wp2_with (first | ((with_reducible show wpList _ _ _ (Oper.mk (some 5) _ _ _ _ _ :: _) _ _); rw [HV0.out]; refine wpList_load_pent 5 (by rfl) (by rfl) _ (by rfl) w.heap.size 0 (by rfl) x HM1.out.at_ ?_) | (go_at_call 93; refine CT.out.mono ?_; rintro e w1 ⟨a1, c1, rfl, ho1, hb1⟩; obtain ⟨g1, g2⟩ := HST.out w1 a1 c1 hb1 ho1; have HE1 : Hid _ := g1; have HE2 : Hid _ := g2; clear ho1 hb1 g1 g2 CT HM1) | (have hgo := HE1.out; clear hgo; refine wpList_store_pent (.tmp 1) (by rfl) _ (by rfl) w.heap.size x ⟨x.e, a1, c1⟩ (by rfl) (by rfl) HE1.out ?_; intro u2 hu; rw [← hu] at HE2; have y5 := entmine5 HE2.out.box; rw [show (⟨x.e, a1, c1⟩ : EntM).e.l.length = N from HN.out] at y5; clear hu HE1))
  clear y5
  go_loopw [10] (fun iv wr => ∃ i : Nat, iv = .int .i64 i ∧ i ≤ N ∧ Hid (KpR w wr x a1 c1)) (fun iv _ => N - (intOf iv).toNat)
  case atStart => exact ⟨0, rfl, Nat.zero_le _, HE2⟩
  case round =>
    obtain ⟨i, rfl, hi, HK⟩ := hrel
    have hi0 : (0 : Int) ≤ (i : Int) := by omega
    by_cases hlt : i < N
    · have h1 : (i : Int) < (N : Int) := by omega
      obtain ⟨W, hW⟩ : ∃ W, x.e.l[i]? = some W := ⟨_, List.getElem?_eq_getElem (by rw [HN.out]; exact hlt)⟩
      obtain ⟨g, hag, HG⟩ := HK.out.wrt HOK.out hW
      have hok := HOK.out W (List.mem_of_getElem? hW)
      have HWM : Hid (W ∈ x.e.l) := List.mem_of_getElem? hW
      have KW : Hid (Ky W.k) := hok.key
      have HWA : Hid (WrtAt wr g (i * 18) W) := (HG.out wr (Below.refl _ _)).1
      have hmine := WrtMine.made wr 80 zeroW zeroW_ky
      obtain ⟨hk1, hb1, hz1⟩ := laid_wrt wr 80 (W := W) hok.key
      rw [zeroW_cells] at hmine hk1 hb1 hz1
      have HMI : Hid _ := hmine
      have HK1 : Hid _ := hk1
      have HBL : Hid _ := hb1
      obtain ⟨S, hS⟩ : ∃ S, S = strOfNums W.v := ⟨_, rfl⟩
      have CS : Hid (∀ u, Calls Tryz.prog 131 #[.string S] u fun e w' => e = .returned (.string S) ∧ Below u.heap.size u w') := fun u => by
        refine pstr_any S u ?_
        rw [hS, strOfNums_size]
        have := HVL.out W HWM.out
        omega
      have FB : Hid (∀ v, Below wr.heap.size wr v → v.cell? ⟨w.heap.size, 5, none⟩ = some (.slice (some ⟨g, 0, none⟩) N c1)) := fun v hv => by
        have := entmine5 (HK.out.past hv).box
        rw [← hag, ← HN.out]
        exact this
      have FG : Hid (∀ v, Below wr.heap.size wr v → v.cell? ⟨g, i * 18 + 16, none⟩ = some (.string S) ∧ v.frozen? ⟨g, i * 18 + 16, none⟩ = false) := fun v hv => by
        rw [hS]
        exact ⟨(HG.out v hv).2.2, (HG.out v hv).2.1⟩
      have HSS : Hid (S = strOfNums W.v) := hS
      have HAG : Hid (a1 = some ⟨g, 0, none⟩) := hag
      clear hmine hk1 hb1 hz1 hok hW hS
      rw [hag]
      clear hag
      go_wp2_with (first | (have hgo := HWA.out; clear hgo; refine wpList_load_wrt 14 (by rfl) (by rfl) _ (by rfl) g (i * 18) (by rfl) W KW.out HWA.out ?_) | (have hgo := HMI.out; clear hgo; refine wpList_store_wrt (.tmp 4) (by rfl) _ (by rfl) wr.heap.size 0 zeroW W (by rfl) (by rfl) KW.out HMI.out ?_; intro u3 hu; rw [← hu] at HK1 HBL; clear hu HMI HWA))
      have FSB : Hid (∀ v, Below u3.heap.size u3 v → Hid (Below wr.heap.size wr v) ∧ v.cell? ⟨wr.heap.size, 16, none⟩ = some (.string S)) := fun v hv => by
        refine ⟨HBL.out.trans (hv.mono HBL.out.size), ?_⟩
        have := ((HK1.out.past hv).at_.cells KW.out).1
        rw [Nat.zero_add] at this
        rw [HSS.out]
        exact this
      refine wp_region_noPanic ?_
      refine region_up 8 (fun u => Below u3.heap.size u3 u) (by kernel_rfl) ?_ (fun hHeld => ?_)
      · exact (Below.refl _ _).drew
      refine up_take (i := 0) (v := ?_) (by kernel_rfl) (by kernel_rfl) (by kernel_rfl) rfl (by kernel_rfl) (by kernel_rfl) (by kernel_rfl) (fun _ _ _ h => h) (Or.inl ⟨by rfl, ?_⟩) hHeld ?_
      rotate_left
      · intro u hSu
        (go_simp) <;> (with_reducible rfl)
      change wpUp _ _ _ _ _ _ _ _ (Act.put _ (some 15) _) _
      simp only [Act.put, List.setIfInBounds_toArray, List.set_cons_zero, List.set_cons_succ]
      refine up_take (i := 1) (v := ?_) (by kernel_rfl) (by kernel_rfl) (by kernel_rfl) rfl (by kernel_rfl) (by kernel_rfl) (by kernel_rfl) (fun _ _ _ h => h) (Or.inl ⟨by rfl, ?_⟩) hHeld ?_
      rotate_left
      · intro u hSu
        have q0 := FB.out u (FSB.out u hSu).1.out
        (go_simp) <;> (with_reducible rfl)
      change wpUp _ _ _ _ _ _ _ _ (Act.put _ (some 16) _) _
      simp only [Act.put, List.setIfInBounds_toArray, List.set_cons_zero, List.set_cons_succ]
      refine up_take (i := 2) (v := ?_) (by kernel_rfl) (by kernel_rfl) (by kernel_rfl) rfl (by kernel_rfl) (by kernel_rfl) (by kernel_rfl) (fun _ _ _ h => h) (Or.inl ⟨by rfl, ?_⟩) hHeld ?_
      rotate_left
      · intro u hSu
        (go_simp) <;> (with_reducible rfl)
      change wpUp _ _ _ _ _ _ _ _ (Act.put _ (some 17) _) _
      simp only [Act.put, List.setIfInBounds_toArray, List.set_cons_zero, List.set_cons_succ]
      refine up_take (i := 3) (v := ?_) (by kernel_rfl) (by kernel_rfl) (by kernel_rfl) rfl (by kernel_rfl) (by kernel_rfl) (by kernel_rfl) (fun _ _ _ h => h) (Or.inl ⟨by rfl, ?_⟩) hHeld ?_
      rotate_left
      · intro u hSu
        (go_simp) <;> (with_reducible rfl)
      change wpUp _ _ _ _ _ _ _ _ (Act.put _ (some 18) _) _
      simp only [Act.put, List.setIfInBounds_toArray, List.set_cons_zero, List.set_cons_succ]
      refine up_take (i := 4) (v := ?_) (by kernel_rfl) (by kernel_rfl) (by kernel_rfl) rfl (by kernel_rfl) (by kernel_rfl) (by kernel_rfl) (fun _ _ _ h => h) (Or.inl ⟨by rfl, ?_⟩) hHeld ?_
      rotate_left
      · intro u hSu
        have q0 := (FSB.out u hSu).2
        (go_simp) <;> (with_reducible rfl)
      change wpUp _ _ _ _ _ _ _ _ (Act.put _ (some 19) _) _
      simp only [Act.put, List.setIfInBounds_toArray, List.set_cons_zero, List.set_cons_succ]
      refine up_ready (rs := [5]) (by kernel_rfl) (by simp) ?_
      refine AllUp.cons rfl (fun K hK => ?_) AllUp.nil
      go_simp
      go_at_call 131
      refine (CS.out _).mono ?_
      rintro e u4 ⟨rfl, hb4⟩
      have B4 : Hid (Below u3.heap.size u3 u4) := hHeld.trans (hb4.mono hHeld.size); clear hb4
      refine hK.out _ _ ?_ (fun hHeld2 => ?_)
      · exact B4.out
      clear hK K hHeld
      have hHeld := hHeld2
      clear hHeld2
      refine up_take (i := 6) (v := ?_) (by kernel_rfl) (by kernel_rfl) (by kernel_rfl) rfl (by kernel_rfl) (by kernel_rfl) (by kernel_rfl) (fun _ _ _ h => h) (Or.inl ⟨by rfl, ?_⟩) hHeld ?_
      rotate_left
      · intro u hSu
        (go_simp) <;> (with_reducible rfl)
      change wpUp _ _ _ _ _ _ _ _ (Act.put _ (some 21) _) _
      simp only [Act.put, List.setIfInBounds_toArray, List.set_cons_zero, List.set_cons_succ]
      refine up_take (i := 7) (v := ?_) (by kernel_rfl) (by kernel_rfl) (by kernel_rfl) rfl (by kernel_rfl) (by kernel_rfl) (by kernel_rfl) (fun _ _ _ h => h) (Or.inl ⟨by rfl, ?_⟩) hHeld ?_
      rotate_left
      · intro u hSu
        (go_simp) <;> (with_reducible rfl)
      change wpUp _ _ _ _ _ _ _ _ (Act.put _ (some 22) _) _
      simp only [Act.put, List.setIfInBounds_toArray, List.set_cons_zero, List.set_cons_succ]
      refine up_ready (rs := [8]) (by kernel_rfl) (by simp) ?_
      refine AllUp.that rfl (fun K hK => ?_) AllUp.nil
      (obtain ⟨z1, z2⟩ := FG.out u4 (FSB.out u4 B4.out).1.out); go_simp; refine hK.out _ _ ?_; rw [set_self z1]; clear hK K hHeld z1 z2
      refine up_done (by kernel_rfl) ?_
      refine NoPanic.normal ?_
      go_wp2
      go_roundw
      case rel => exact ⟨i + 1, by go_num, by omega, by rw [← HAG.out]; exact HK.out.past (FSB.out u4 B4.out).1.out⟩
      case measure => simp [intOf]; omega
    · obtain rfl : i = N := by omega
      go_wp2_with (first | ((with_reducible show wpList _ _ _ (Oper.mk (some 24) _ _ _ _ _ :: _) _ _); refine wpList_load_pent 24 (by rfl) (by rfl) _ (by rfl) w.heap.size 0 (by rfl) ⟨x.e, a1, c1⟩ HK.out.box.at_ ?_) | (have hgo := HK.out; clear hgo; refine wpList_store_pent (.tmp 2) (by rfl) _ (by rfl) (w.heap.size + 1) zeroE ⟨x.e, a1, c1⟩ (by rfl) (by rfl) HK.out.res ?_; intro u5 hu; have HM5 : Hid (EntMine u5 (w.heap.size + 1) ⟨x.e, a1, c1⟩) := hu ▸ HK.out.res.store; have HU5 : Hid (u5 = wr.setCells (w.heap.size + 1) 0 (encE ⟨x.e, a1, c1⟩)) := hu; clear hu))
      refine bodyPost_ret (results_pent1 rfl _ _ (w.heap.size + 1) ⟨x.e, a1, c1⟩ rfl HM5.out.at_) rfl ?_
      refine ⟨a1, c1, rfl, ?_, by rw [HU5.out]; exact below_cells (Nat.le_succ _) HK.out.below⟩
      have hr := HK.out.row
      rw [HN.out] at hr
      refine row_keptT hr (fun k e => ?_)
      have := (hr.lt k e).1
      rw [HU5.out, cells_else (w := w) (by omega)]
set_option maxHeartbeats 4000000 in
set_option maxRecDepth 4000 in
theorem pgood_any (id s m t n : Int) (a : Option Addr) (N c : Nat) (l : List Wrt) (w : World) (hl : l.length = N) (hc : N ≤ c) (hN : N ≤ 1000000) (hat : WrtsAt w a l) :
    Calls Tryz.prog 42 #[.agg #[.int .i64 id, .int .i64 s, .int .u8 m, .int .i64 t, .int .u8 n, .slice a N c]] w fun e w' => e = .returned (.bool (goodE ⟨id, s, m, t, n, l⟩)) ∧ Below w.heap.size w w' := by
  obtain ⟨U, hU⟩ : ∃ U, U = w.alloc (.cells #[.int .i64 id, .int .i64 s, .int .u8 m, .int .i64 t, .int .u8 n, .slice a N c] 31) := ⟨_, rfl⟩
  have HU : Hid (w.alloc (.cells #[.int .i64 id, .int .i64 s, .int .u8 m, .int .i64 t, .int .u8 n, .slice a N c] 31) = U) := hU.symm
  have HB : Hid (Below w.heap.size w U) := by rw [hU]; exact (Below.refl _ _).alloc (Nat.le_refl _) _
  have FE : Hid (∀ u, Below U.heap.size U u → EBox u w.heap.size id s m t n a N c) := fun u hb => (by rw [hU]; exact EBox.made w 31 id s m t n a N c : EBox U w.heap.size id s m t n a N c).past hb
  obtain ⟨R, hR⟩ : ∃ R, R = goodE ⟨id, s, m, t, n, l⟩ := ⟨_, rfl⟩
  obtain ⟨g1, hg1⟩ : ∃ x, x = decide (okS s) := ⟨_, rfl⟩
  obtain ⟨g2, hg2⟩ : ∃ x, x = decide (okS t) := ⟨_, rfl⟩
  obtain ⟨x, hx⟩ : ∃ x, x = cmpS t n s m := ⟨_, rfl⟩
  obtain ⟨mw, hmw⟩ : ∃ x, x = mayW l 1 := ⟨_, rfl⟩
  have hr : R = (decide (1 ≤ id) && g1 && g2 && decide (0 < x) && mw) := by rw [hR, hg1, hg2, hx, hmw]; rfl
  rw [← hR]
  have C1 : Hid (∀ u, Calls Tryz.prog 47 #[.agg #[.int .i64 s, .int .u8 m]] u fun e w' => e = .returned (.bool g1) ∧ Below u.heap.size u w') := fun u => by rw [hg1]; exact sgood_any s m u
  have C2 : Hid (∀ u, Calls Tryz.prog 47 #[.agg #[.int .i64 t, .int .u8 n]] u fun e w' => e = .returned (.bool g2) ∧ Below u.heap.size u w') := fun u => by rw [hg2]; exact sgood_any t n u
  have C3 : Hid (∀ u, Calls Tryz.prog 49 #[.agg #[.int .i64 t, .int .u8 n], .agg #[.int .i64 s, .int .u8 m]] u fun e w' => e = .returned (.int .i64 x) ∧ Below u.heap.size u w') := fun u => by rw [hx]; exact scmp_any t n s m u
  have C4 : Hid (∀ u, Below w.heap.size w u → Calls Tryz.prog 82 #[.slice a N c] u fun e w' => e = .returned (.bool mw) ∧ Below u.heap.size u w') := fun u hb => by rw [hmw]; exact sgoods_any a N c l u hl hc hN (hat.past hb)
  clear hR hg1 hg2 hx hmw hU hat hl
  by_cases h1 : id < 1
  · have b1 : decide (1 ≤ id) = false := decide_eq_false (by omega)
    rw [b1] at hr
    have HR : Hid (R = false) := hr
    clear hr b1
    go_enter Tryz.func42, Tryz.ntmps42
    go_wp2
    rw [HU.out]
    go_ret
    exact ⟨by rw [HR.out]; rfl, HB.out⟩
  · have b1 : decide (1 ≤ id) = true := decide_eq_true (by omega)
    rw [b1] at hr
    clear b1
    cases g1 with
    | false =>
      have HR : Hid (R = false) := hr
      clear hr
      go_enter Tryz.func42, Tryz.ntmps42
      go_wp2_with (first | (have hgo := C1.out; clear hgo; go_at_call 47; rw [HU.out]; refine (C1.out _).mono ?_; rintro e u1 ⟨rfl, hb1⟩; have B1 : Hid (Below U.heap.size U u1) := hb1; obtain ⟨y0, y1, y2, y3, y4, y5⟩ := FE.out _ B1.out; clear hb1 C1))
      go_ret
      exact ⟨by rw [HR.out]; rfl, HB.out.trans (B1.out.mono HB.out.size)⟩
    | true =>
      cases g2 with
      | false =>
        have HR : Hid (R = false) := hr
        clear hr
        go_enter Tryz.func42, Tryz.ntmps42
        go_wp2_with (first | (have hgo := C1.out; clear hgo; go_at_call 47; rw [HU.out]; refine (C1.out _).mono ?_; rintro e u1 ⟨rfl, hb1⟩; have B1 : Hid (Below U.heap.size U u1) := hb1; obtain ⟨y0, y1, y2, y3, y4, y5⟩ := FE.out _ B1.out; clear hb1 C1) | (have hgo := C2.out; clear hgo; go_at_call 47; refine (C2.out _).mono ?_; rintro e u2 ⟨rfl, hb2⟩; have B2 : Hid (Below U.heap.size U u2) := B1.out.trans (hb2.mono B1.out.size); obtain ⟨y0, y1, y2, y3, y4, y5⟩ := FE.out _ B2.out; clear hb2 C2))
        go_ret
        exact ⟨by rw [HR.out]; rfl, HB.out.trans (B2.out.mono HB.out.size)⟩
      | true =>
        by_cases h2 : 0 < x
        · have b2 : decide (0 < x) = true := decide_eq_true h2
          rw [b2] at hr
          have HR : Hid (R = mw) := by rw [hr]; simp [Hid]
          clear hr
          go_enter Tryz.func42, Tryz.ntmps42
          go_wp2_with (first | (have hgo := C1.out; clear hgo; go_at_call 47; rw [HU.out]; refine (C1.out _).mono ?_; rintro e u1 ⟨rfl, hb1⟩; have B1 : Hid (Below U.heap.size U u1) := hb1; obtain ⟨y0, y1, y2, y3, y4, y5⟩ := FE.out _ B1.out; clear hb1 C1) | (have hgo := C2.out; clear hgo; go_at_call 47; refine (C2.out _).mono ?_; rintro e u2 ⟨rfl, hb2⟩; have B2 : Hid (Below U.heap.size U u2) := B1.out.trans (hb2.mono B1.out.size); obtain ⟨y0, y1, y2, y3, y4, y5⟩ := FE.out _ B2.out; clear hb2 C2) | (have hgo := C3.out; clear hgo; go_at_call 49; refine (C3.out _).mono ?_; rintro e u3 ⟨rfl, hb3⟩; have B3 : Hid (Below U.heap.size U u3) := B2.out.trans (hb3.mono B2.out.size); obtain ⟨y0, y1, y2, y3, y4, y5⟩ := FE.out _ B3.out; clear hb3 C3) | (have hgo := C4.out; clear hgo; go_at_call 82; refine (C4.out _ (HB.out.trans (B3.out.mono HB.out.size))).mono ?_; rintro e u4 ⟨rfl, hb4⟩; have B4 : Hid (Below U.heap.size U u4) := B3.out.trans (hb4.mono B3.out.size); clear hb4 C4))
          go_ret
          exact ⟨by rw [HR.out]; rfl, HB.out.trans (B4.out.mono HB.out.size)⟩
        · have b2 : decide (0 < x) = false := decide_eq_false h2
          rw [b2] at hr
          have HR : Hid (R = false) := hr
          clear hr
          go_enter Tryz.func42, Tryz.ntmps42
          go_wp2_with (first | (have hgo := C1.out; clear hgo; go_at_call 47; rw [HU.out]; refine (C1.out _).mono ?_; rintro e u1 ⟨rfl, hb1⟩; have B1 : Hid (Below U.heap.size U u1) := hb1; obtain ⟨y0, y1, y2, y3, y4, y5⟩ := FE.out _ B1.out; clear hb1 C1) | (have hgo := C2.out; clear hgo; go_at_call 47; refine (C2.out _).mono ?_; rintro e u2 ⟨rfl, hb2⟩; have B2 : Hid (Below U.heap.size U u2) := B1.out.trans (hb2.mono B1.out.size); obtain ⟨y0, y1, y2, y3, y4, y5⟩ := FE.out _ B2.out; clear hb2 C2) | (have hgo := C3.out; clear hgo; go_at_call 49; refine (C3.out _).mono ?_; rintro e u3 ⟨rfl, hb3⟩; have B3 : Hid (Below U.heap.size U u3) := B2.out.trans (hb3.mono B2.out.size); obtain ⟨y0, y1, y2, y3, y4, y5⟩ := FE.out _ B3.out; clear hb3 C3))
          go_ret
          exact ⟨by rw [HR.out]; rfl, HB.out.trans (B3.out.mono HB.out.size)⟩
end Go.Proofs.YtileidbdmpeciaaGreat

