/-
  What package store answers and leaves: Trim.
  What package store answers: Copy.
  What the landed parts answer and leave: New, State, Trim, Store, and what ends a transaction (package part).
-/
import Derived.Test.YtileidbdmpeciaaGreatStoC5
import Derived.Test.YtileidbdmpeciaaGreatAu77
import Derived.Test.YtileidbdmpeciaaGreatAu49
import Derived.Test.YtileidbdmpeciaaGreatStoC1
import Derived.Test.YtileidbdmpeciaaGreatRegUpto
namespace Go.Proofs.YtileidbdmpeciaaGreat
open Go.RowKit
set_option linter.unusedVariables false

/-- The chains while a trim goes over them, in whatever order. -/
def mixT (L : List Ver) (t n : Int) (left : List Int → Bool) (k : List Int) : List Ver := if left k = true then oneV L k else restV (oneV L k) t n
/-- What a trim over the chains has reached. -/
structure TrR (W0 u : World) (p m r : Nat) (L : List Ver) (t n : Int) (X : Foot) (left : List Int → Bool) (cnt : Nat) : Prop where
  st : ∃ G X' Y, KRange u m r G left cnt ∧ StI u p (mixT L t n left) X' m G Y ∧ Did W0 u X X' ∧ ¬ X' r ∧ (∀ k g, Ky k → G k = some g → mixT L t n left k ≠ []) ∧ ∀ k, Ky k → left k = true → k ∈ keysV L
theorem TrR.left_eq {W0 u : World} {p m r cnt : Nat} {L : List Ver} {t n : Int} {X : Foot} {left : List Int → Bool} (h : TrR W0 u p m r L t n X left cnt) : u.rangeLeft m r = cnt := by
  obtain ⟨G, X', Y, h1, _⟩ := h.st
  exact h1.left_eq
theorem TrR.box {W0 u : World} {p m r cnt : Nat} {L : List Ver} {t n : Int} {X : Foot} {left : List Int → Bool} (h : TrR W0 u p m r L t n X left cnt) {b : Nat} (hb : b < W0.heap.size) (hX : ¬ X b) : u.heap[b]? = W0.heap[b]? := by
  obtain ⟨G, X', Y, _, _, d, _⟩ := h.st
  exact d.chg.block b hb hX
/-- The same, the chain at x trimmed, maybe empty. -/
structure TrM (W0 u : World) (p m r : Nat) (L : List Ver) (t n : Int) (X : Foot) (left : List Int → Bool) (cnt : Nat) (x : List Int) (G : List Int → Option Nat) : Prop where
  st : ∃ X' Y, KRange u m r G left cnt ∧ StI u p (mixT L t n left) X' m G Y ∧ Did W0 u X X' ∧ ¬ X' r ∧ (∀ k g, Ky k → k ≠ x → G k = some g → mixT L t n left k ≠ []) ∧ ∀ k, Ky k → left k = true → k ∈ keysV L
theorem TrM.past {W0 u u' : World} {p m r cnt : Nat} {L : List Ver} {t n : Int} {X : Foot} {left : List Int → Bool} {x : List Int} {G : List Int → Option Nat} (h : TrM W0 u p m r L t n X left cnt x G) (hb : Below u.heap.size u u') : TrM W0 u' p m r L t n X left cnt x G := by
  obtain ⟨X', Y, h1, h2, h3, h4, h5⟩ := h.st
  exact ⟨X', Y, h1.kept (hb.block m (h2.lt m h2.xm)) (hb.block r h1.lt), h2.past hb, h3.trans (Did.stay hb h2.lt), h4, h5⟩
theorem TrM.full {W0 u : World} {p m r cnt : Nat} {L : List Ver} {t n : Int} {X : Foot} {left : List Int → Bool} {x : List Int} {G : List Int → Option Nat} (h : TrM W0 u p m r L t n X left cnt x G) (hx : mixT L t n left x ≠ []) : TrR W0 u p m r L t n X left cnt := by
  obtain ⟨X', Y, h1, h2, h3, h4, h5, h6⟩ := h.st
  refine ⟨G, X', Y, h1, h2, h3, h4, fun k g hk hg => ?_, h6⟩
  by_cases e : k = x
  · rw [e]; exact hx
  · exact h5 k g hk e hg
theorem TrM.gone {W0 u u' : World} {p m r cnt cnt' : Nat} {L : List Ver} {t n : Int} {X : Foot} {left : List Int → Bool} {x : List Int} {G : List Int → Option Nat} (h : TrM W0 u p m r L t n X left cnt x G) (hk : Ky x) (hx : mixT L t n left x = []) (hr : KRange u' m r (putK G x none) left cnt') (ht : u.mapTurned u' m) : TrR W0 u' p m r L t n X left cnt' := by
  obtain ⟨X', Y, h1, h2, h3, h4, h5, h6⟩ := h.st
  obtain ⟨j1, j2⟩ := h2.gone hk hx ht hr.map
  refine ⟨_, X', Y, hr, j1, h3.trans j2, h4, fun k g hky hg => ?_, h6⟩
  by_cases e : k = x
  · subst e; rw [putK_same] at hg; cases hg
  · rw [putK_other e] at hg; exact h5 k g hky e hg
end Go.Proofs.YtileidbdmpeciaaGreat

namespace Go.Proofs.YtileidbdmpeciaaGreat
open Go.RowKit
set_option linter.unusedVariables false

/-- The copy, one chain of it under way. -/
structure CpM (wc u : World) (q mq : Nat) (L : List Ver) (C : List Int → List Ver) (Z : Foot) : Prop where
  st : ∃ Z' Gq Yq, StI u q C Z' mq Gq Yq ∧ Did wc u Z Z' ∧ ∀ k, Ky k → (Gq k).isSome = true → k ∈ keysV L
theorem CpM.past {wc u u' : World} {q mq : Nat} {L : List Ver} {C : List Int → List Ver} {Z : Foot} (h : CpM wc u q mq L C Z) (hb : Below u.heap.size u u') : CpM wc u' q mq L C Z := by
  obtain ⟨Z', Gq, Yq, h1, h2, h3⟩ := h.st
  exact ⟨Z', Gq, Yq, h1.past hb, h2.trans (Did.stay hb h1.lt), h3⟩
theorem CpM.chg {wc u : World} {q mq : Nat} {L : List Ver} {C : List Int → List Ver} {Z : Foot} (h : CpM wc u q mq L C Z) : Chg wc u Z := by
  obtain ⟨Z', Gq, Yq, h1, h2, h3⟩ := h.st
  exact h2.chg
end Go.Proofs.YtileidbdmpeciaaGreat

namespace Go.Proofs.YtileidbdmpeciaaGreat
open Go.RowKit
set_option linter.unusedVariables false
set_option linter.unusedSimpArgs false

theorem par_made (w : World) (s t : Nat) (XS XT : Foot) (h1 : StD w s [] XS) (h2 : PTab w t [] XT) (hd : ∀ k, XS k → XT k → False) :
    ParI ((w.alloc (.map #[] 0)).alloc (.cells #[.pointer (some ⟨s, 0, none⟩), .pointer (some ⟨t, 0, none⟩), .map (some w.heap.size)] 89)) (w.heap.size + 1) s t w.heap.size ⟨[], [], []⟩ [] XS XT := by
  have hb1 : Below w.heap.size w (w.alloc (.map #[] 0)) := (Below.refl _ _).alloc (Nat.le_refl _) _
  have hb : Below w.heap.size w ((w.alloc (.map #[] 0)).alloc (.cells #[.pointer (some ⟨s, 0, none⟩), .pointer (some ⟨t, 0, none⟩), .map (some w.heap.size)] 89)) := hb1.alloc hb1.size _
  have e : ∀ o, ((w.alloc (.map #[] 0)).alloc (.cells #[.pointer (some ⟨s, 0, none⟩), .pointer (some ⟨t, 0, none⟩), .map (some w.heap.size)] 89)).cell? ⟨w.heap.size + 1, o, none⟩ = (#[.pointer (some ⟨s, 0, none⟩), .pointer (some ⟨t, 0, none⟩), .map (some w.heap.size)] : Array Value)[o]? := fun o => by
    have := World.cell?_alloc_new (w.alloc (.map #[] 0)) #[.pointer (some ⟨s, 0, none⟩), .pointer (some ⟨t, 0, none⟩), .map (some w.heap.size)] 89 o
    rw [World.size_alloc] at this
    exact this
  have hm := (OMap.made w).kept (u' := (w.alloc (.map #[] 0)).alloc (.cells #[.pointer (some ⟨s, 0, none⟩), .pointer (some ⟨t, 0, none⟩), .map (some w.heap.size)] 89)) (((Below.refl _ _).alloc (Nat.le_refl _) _).block w.heap.size (by simp))
  refine ⟨e 0, e 1, e 2, h1.past hb, h2.past hb, rfl, hm.congr (fun x _ => rfl), by omega, fun h => ?_, fun h => ?_, fun h => ?_, fun h => ?_, hd, fun x hx => by simp at hx⟩
  · have := h1.lt _ h; omega
  · have := h2.lt _ h; omega
  · have := h1.lt _ h; omega
  · have := h2.lt _ h; omega
set_option maxHeartbeats 1000000 in
theorem parnew_any (w : World) :
    Calls Tryz.prog 9 #[] w fun e w' => ∃ p s t m XS XT, e = .returned (.pointer (some ⟨p, 0, none⟩)) ∧ ParI w' p s t m ⟨[], [], []⟩ [] XS XT ∧ Below w.heap.size w w' ∧ ∀ k, ParX p m XS XT k → w.heap.size ≤ k := by
  have hmm := @run_makeMap Tryz.prog
  go_enter Tryz.func9, Tryz.ntmps9
  go_wp2_with (first
    | (go_at_call 41; refine (pnew_any _).mono ?_; rintro e w2 ⟨t, XT, rfl, k1, k2, k3⟩; have HT : Hid (PTab w2 t [] XT ∧ Below w1.heap.size w1 w2 ∧ ∀ k, XT k → w1.heap.size ≤ k) := ⟨k1, k2, k3⟩; clear k1 k2 k3)
    | (go_at_call 40; refine (snew_any _).mono ?_; rintro e w1 ⟨s, XS, rfl, h1, h2, h3⟩; have HS : Hid (StD w1 s [] XS ∧ Below w.heap.size w w1 ∧ ∀ k, XS k → w.heap.size ≤ k) := ⟨h1, h2, h3⟩; clear h1 h2 h3))
  go_ret
  obtain ⟨h1, h2, h3⟩ := HS.out
  obtain ⟨k1, k2, k3⟩ := HT.out
  have hb := h2.trans (k2.mono h2.size)
  have hsz := hb.size
  refine ⟨_, _, _, _, XS, XT, rfl, par_made w2 s t XS XT (h1.past k2) k1 (fun k x y => ?_), (hb.alloc hsz _).alloc (by simp; omega) _, fun k hk => ?_⟩
  · have := h1.lt k x
    have := k3 k y
    omega
  · have := h2.size
    rcases hk with e | e | e | e
    · omega
    · omega
    · exact h3 k e
    · exact Nat.le_trans h2.size (k3 k e)
/-- Has's answer, written out. -/
theorem phas_lit (p : Nat) (M : List EntM) (X : Foot) (id : Int) (w : World) (h : PTab w p M X) :
    Calls Tryz.prog 48 #[.pointer (some ⟨p, 0, none⟩), .int .i64 id] w fun e w' => (∃ (a0 a1 a2 a3 a4 : Int) (a : Option Addr) (n c : Nat), e = .returned (.tuple #[.agg #[.int .i64 a0, .int .i64 a1, .int .u8 a2, .int .i64 a3, .int .u8 a4, .slice a n c], .bool (hasM M id).isSome])) ∧ Below w.heap.size w w' := by
  refine (phas_any p M X id w h).mono ?_
  rintro e w' ⟨⟨Y, rfl, _⟩, hb⟩
  exact ⟨⟨_, _, _, _, _, _, _, _, rfl⟩, hb⟩
set_option maxHeartbeats 2000000 in
theorem pstate_any {p s t m : Nat} {P : PSt} {M : List EntM} {XS XT : Foot} (id : Int) (hid : I64 id) (w : World) (h : ParI w p s t m P M XS XT) (ho : ∀ e ∈ P.T, overP P.O e.id = none) :
    Calls Tryz.prog 19 #[.pointer (some ⟨p, 0, none⟩), .int .i64 id] w fun e w' => e = .returned (.int .i64 (stateP P id)) ∧ Below w.heap.size w w' := by
  have CH : Hid (Calls Tryz.prog 48 #[.pointer (some ⟨t, 0, none⟩), .int .i64 id] w fun e w' => (∃ (a0 a1 a2 a3 a4 : Int) (a : Option Addr) (n c : Nat), e = .returned (.tuple #[.agg #[.int .i64 a0, .int .i64 a1, .int .u8 a2, .int .i64 a3, .int .u8 a4, .slice a n c], .bool (hasM M id).isSome])) ∧ Below w.heap.size w w') := phas_lit t M XT id w h.tab
  have q1 := h.c1
  have HC : Hid (∀ u, Below w.heap.size w u → u.cell? ⟨p, 2, none⟩ = some (.map (some m)) ∧ (Instr.lookup 87 (.map (some m)) (.int .i64 id) false).run Tryz.prog u = .ok (.int .i64 ((overP P.O id).getD 0)) u) := fun u hu => ⟨(h.past hu).c2, (h.past hu).map.look Tryz.underlying87 hid⟩
  obtain ⟨R, hR⟩ : ∃ R, R = stateP P id := ⟨_, rfl⟩
  obtain ⟨L, hL⟩ : ∃ L, L = (overP P.O id).getD 0 := ⟨_, rfl⟩
  rw [← hR]
  rw [← hL] at HC
  have hh := hasM_e M id
  cases hm : hasM M id with
  | none =>
    have HF : Hid (R = L) := by
      show R = L
      rw [hm, h.is] at hh
      rw [hR, hL]
      unfold stateP
      rw [← hh]
      cases overP P.O id <;> rfl
    rw [hm] at CH
    have CH2 : Hid (Calls Tryz.prog 48 #[.pointer (some ⟨t, 0, none⟩), .int .i64 id] w fun e w' => (∃ (a0 a1 a2 a3 a4 : Int) (a : Option Addr) (n c : Nat), e = .returned (.tuple #[.agg #[.int .i64 a0, .int .i64 a1, .int .u8 a2, .int .i64 a3, .int .u8 a4, .slice a n c], .bool false])) ∧ Below w.heap.size w w') := CH
    clear hR hL hh hm h ho CH
    go_enter Tryz.func19, Tryz.ntmps19
    go_wp2_with (first | (go_at_call 48; refine CH2.out.mono ?_; rintro e w1 ⟨⟨a0, a1, a2, a3, a4, a, n, c, rfl⟩, hb⟩; have B1 : Hid (Below w.heap.size w w1) := hb; have q2 : ∀ o, (w1.alloc o).cell? ⟨p, 2, none⟩ = some (.map (some m)) := fun o => (HC.out _ (hb.alloc hb.size o)).1; have k2 : ∀ o, (Instr.lookup 87 (.map (some m)) (.int .i64 id) false).run Tryz.prog (w1.alloc o) = .ok (.int .i64 L) (w1.alloc o) := fun o => (HC.out _ (hb.alloc hb.size o)).2; clear hb CH2))
    go_ret
    exact ⟨by rw [HF.out]; rfl, B1.out.alloc B1.out.size _⟩
  | some x =>
    have HF : Hid (R = 1) := by
      show R = 1
      rw [hm, h.is] at hh
      have hx : hasT P.T id = some x.e := hh.symm
      have hmem : x.e ∈ P.T := List.mem_of_find?_eq_some hx
      have hide : x.e.id = id := of_decide_eq_true (List.find?_some (p := fun e : Ent => decide (e.id = id)) hx)
      have h9 := ho _ hmem
      rw [hide] at h9
      rw [hR]
      unfold stateP
      rw [h9, hx]
      rfl
    rw [hm] at CH
    have CH2 : Hid (Calls Tryz.prog 48 #[.pointer (some ⟨t, 0, none⟩), .int .i64 id] w fun e w' => (∃ (a0 a1 a2 a3 a4 : Int) (a : Option Addr) (n c : Nat), e = .returned (.tuple #[.agg #[.int .i64 a0, .int .i64 a1, .int .u8 a2, .int .i64 a3, .int .u8 a4, .slice a n c], .bool true])) ∧ Below w.heap.size w w') := CH
    clear hR hL hh hm h ho CH HC
    go_enter Tryz.func19, Tryz.ntmps19
    go_wp2_with (first | (go_at_call 48; refine CH2.out.mono ?_; rintro e w1 ⟨⟨a0, a1, a2, a3, a4, a, n, c, rfl⟩, hb⟩; have B1 : Hid (Below w.heap.size w w1) := hb; clear hb CH2))
    go_ret
    exact ⟨by rw [HF.out]; rfl, B1.out.alloc B1.out.size _⟩
set_option maxHeartbeats 2000000 in
/-- A transaction is over. -/
theorem pend_any {p s t m : Nat} {P : PSt} {M : List EntM} {XS XT : Foot} (id how : Int) (hid : I64 id) (w : World) (h : ParI w p s t m P M XS XT) (O' : List (Int × Int)) (hO : P.O.length ≤ 1000000) (hO' : (overP P.O id = none ∧ O' = P.O ++ [(id, how)]) ∨ (overP P.O id = some how ∧ O' = P.O)) :
    Calls Tryz.prog 51 #[.pointer (some ⟨p, 0, none⟩), .int .i64 id, .int .i64 how] w fun e w' => (∃ v, e = .returned v) ∧ ParL w w' p s t m M XS XT ⟨P.S, dropT P.T id, O'⟩ := by
  have CD : Hid (Calls Tryz.prog 100 #[.pointer (some ⟨t, 0, none⟩), .int .i64 id] w fun e w' => (∃ v, e = .returned v) ∧ ParL w w' p s t m M XS XT ⟨P.S, dropT P.T id, P.O⟩) := by
    refine (pdrop_any t M XT id w h.tab).mono ?_
    rintro e w' ⟨rfl, h1, h2, _⟩
    have h3 := h.turnT h1 h2 (fun x hx => .inl (List.mem_filter.1 hx).1)
    rw [dropM_e, h.is] at h3
    exact ⟨⟨_, rfl⟩, h3⟩
  have q1 := h.c1
  have HID : Hid (I64 id) := hid
  have HO : Hid (P.O.length ≤ 1000000) := hO
  have HO' : Hid ((overP P.O id = none ∧ O' = P.O ++ [(id, how)]) ∨ (overP P.O id = some how ∧ O' = P.O)) := hO'
  clear h hid hO hO'
  go_enter Tryz.func51, Tryz.ntmps51
  go_wp2_with (first
    | (at_mapUpdate; refine wpList_store_ints rfl _ _ _ 87 rfl Tryz.underlying87 m P.O.length (overP P.O) (by rfl) H1.out.map HO.out id (by rfl) HID.out how (by rfl) ?_; intro w2 h1 h2; have H2 : Hid (OMap w2 m (if (overP P.O id).isSome then P.O.length else P.O.length + 1) (putI2 (overP P.O) id (some how)) ∧ w1.mapTurned w2 m) := ⟨h1, h2⟩; clear h1 h2)
    | (go_at_call 100; refine CD.out.mono ?_; rintro e w1 ⟨⟨v, rfl⟩, M1, XS1, XT1, h1, h2, h3⟩; have H1 : Hid (ParI w1 p s t m ⟨P.S, dropT P.T id, P.O⟩ M1 XS1 XT1) := h1; have H3 : Hid (Did w w1 (ParX p m XS XT) (ParX p m XS1 XT1) ∧ NewW w M M1) := ⟨h2, h3⟩; have q2 := h1.c2; clear h1 h2 h3 CD))
  go_end0
  refine ⟨⟨_, rfl⟩, ParL.then ⟨M1, XS1, XT1, H1.out, H3.out⟩ (fun M2 XS2 XT2 hM2 => ?_)⟩
  obtain ⟨x1, x2⟩ := H2.out
  refine hM2.turnO x2 ?_
  rcases HO'.out with ⟨e1, e2⟩ | ⟨e1, e2⟩
  · rw [e1] at x1
    rw [e2]
    exact (x1.more (by simp)).congr (fun x _ => by rw [over_put e1])
  · rw [e1] at x1
    rw [e2]
    exact (x1.more (by simp)).congr (fun x _ => by rw [over_same e1])
end Go.Proofs.YtileidbdmpeciaaGreat

