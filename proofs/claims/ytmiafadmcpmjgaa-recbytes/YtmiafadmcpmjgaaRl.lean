/-
  The landed rec: getWrites.
  The landed rec: getParts, goodParts.
  Two lists held against one another: writes, numbers (slices.Equal; the document's own Writes).
  Records in memory: nine cells, and two lists that lie elsewhere.
-/
import Derived.Test.YtmiafadmcpmjgaaWr
import Derived.Test.YtmiafadmcpmjgaaRefRd7
import Derived.Test.YtmiafadmcpmjgaaRefParts
import Derived.Test.YtmiafadmcpmjgaaRefPrep1
namespace Go.Proofs.Ytmiafadmcpmjgaa
open Go.RowKit
set_option linter.unusedVariables false

theorem WrtMine.setG {w : World} {q : Nat} {W : Wrt} (h : WrtMine w q 0 W) (g : Bool) : WrtMine (w.setCell ⟨q, 17, none⟩ (.bool g)) q 0 ⟨W.k, W.v, g⟩ := by
  have hk := kc_len h.key
  refine ⟨⟨lies_of fun j u hj => ?_⟩, fun i hi => by rw [World.frozen?_setCell]; exact h.free i hi, h.key⟩
  rw [Nat.zero_add]
  have hj' : (kc W.k ++ [Value.string (strOfNums W.v), Value.bool g])[j]? = some u := hj
  clear hj
  by_cases e : j = 17
  · subst e
    have hc := (h.at_.cells h.key).2
    rw [Nat.zero_add] at hc
    rw [World.cell?_setCell_same _ _ _ hc]
    rw [List.getElem?_append_right (by omega), hk] at hj'
    simpa using hj'
  · rw [set_off _ _ _ _ _ e]
    have hlt : j < 18 := by
      have := (List.getElem?_eq_some_iff.1 hj').1
      rw [List.length_append, hk] at this; simpa using this
    have h2 : (encW W)[j]? = some u := by
      unfold encW
      by_cases h16 : j < 16
      · rw [List.getElem?_append_left (by omega)] at hj' ⊢; exact hj'
      · obtain rfl : j = 16 := by omega
        rw [List.getElem?_append_right (by omega), hk] at hj' ⊢
        exact hj'
    have := h.at_.lies.at j u h2
    rwa [Nat.zero_add] at this
/-- A write in a box of the round's, and the reader beside it. -/
structure RB (wr u : World) (g q : Nat) (zs : List Int) (b : Bool) (W : Wrt) : Prop where
  lr : LR u g zs b
  chg : Chg wr u (fun j => j = g)
  mine : WrtMine u q 0 W
  hq : wr.heap.size ≤ q
  hg : g < wr.heap.size
theorem RB.turn {wr u u' : World} {g q : Nat} {zs zs' : List Int} {b b' : Bool} {W : Wrt} (h : RB wr u g q zs b W) (hc : Chg u u' (fun j => j = g)) (hl : LR u' g zs' b') : RB wr u' g q zs' b' W :=
  ⟨hl, h.chg.trans hc (fun _ _ x => x), h.mine.chg hc (by have := h.hq; have := h.hg; omega), h.hq, h.hg⟩
theorem RB.set {wr u : World} {g q : Nat} {zs : List Int} {b : Bool} {W W' : Wrt} (h : RB wr u g q zs b W) (i : Nat) (v : Value) (hm : WrtMine (u.setCell ⟨q, i, none⟩ v) q 0 W') : RB wr (u.setCell ⟨q, i, none⟩ v) g q zs b W' := by
  have c : Chg u (u.setCell ⟨q, i, none⟩ v) (fun j => j = q) := Chg.set u ⟨q, i, none⟩ v rfl
  have := h.hq
  have := h.hg
  exact ⟨h.lr.above c (fun j e => by omega), h.chg.trans c (fun j hj e => by omega), hm, h.hq, h.hg⟩
/-- What the rounds hold. -/
structure GwL (w wr : World) (g : Nat) (o0 : Option (List Int)) (N : Nat) (v : Value) (m : Nat) : Prop where
  ex : ∃ (zs : List Int) (b : Bool) (done : List Wrt), LR wr g zs b ∧ Chg w wr (fun j => j = g) ∧ wr.ownsRow w.heap.size 36 18 v m (done.flatMap encW) ∧ (∀ W ∈ done, WrtOk W) ∧ (∀ W ∈ done, W.v.length ≤ 200) ∧ done.length = m ∧ ∀ o2 L, Rds (manyP wrP (N - m)) (stL zs b) o2 L → Rds (manyP wrP N) o0 o2 (done ++ L)
theorem GwL.next {w wr u w6 : World} {g q : Nat} {zs zs' : List Int} {b b' : Bool} {o0 : Option (List Int)} {N m : Nat} {ax ax6 : Option Addr} {cx cx6 : Nat} {done : List Wrt} {W : Wrt} (hg : g < w.heap.size)
    (hx : LR wr g zs b ∧ Chg w wr (fun j => j = g) ∧ wr.ownsRow w.heap.size 36 18 (.slice ax m cx) m (done.flatMap encW) ∧ (∀ W ∈ done, WrtOk W) ∧ (∀ W ∈ done, W.v.length ≤ 200) ∧ done.length = m ∧ ∀ o2 L, Rds (manyP wrP (N - m)) (stL zs b) o2 L → Rds (manyP wrP N) o0 o2 (done ++ L)) (hlt : m < N)
    (h : RB wr u g q zs' b' W) (hW : WrtOk W) (hv : W.v.length ≤ 200) (D : Rds wrP (stL zs b) (stL zs' b') W) (hown : w6.ownsRow w.heap.size 36 18 (.slice ax6 (m + 1) cx6) (m + 1) (done.flatMap encW ++ encW W)) (C6 : Chg (u.alloc (.cells (encW W).toArray 36)) w6 (fun j => w.heap.size ≤ j)) : GwL w w6 g o0 N (.slice ax6 (m + 1) cx6) (m + 1) := by
  obtain ⟨_, C1, _, ok1, vl1, len1, f1⟩ := hx
  have ba : Below u.heap.size u (u.alloc (.cells (encW W).toArray 36)) := (Below.refl _ _).alloc (Nat.le_refl _) _
  refine ⟨zs', b', done ++ [W], (h.lr.past ba).above C6 (fun j e => by omega), ((C1.trans h.chg (fun _ _ x => x)).trans (Chg.of_below ba (fun j => j = g)) (fun _ _ x => x)).trans C6 (fun j hj e => by omega), by simpa using hown, fun X hX => ?_, fun X hX => ?_, by simp [len1], fun o2 L h2 => ?_⟩
  · rcases List.mem_append.1 hX with e | e
    · exact ok1 X e
    · simp at e; rw [e]; exact hW
  · rcases List.mem_append.1 hX with e | e
    · exact vl1 X e
    · simp at e; rw [e]; exact hv
  · have e : N - m = (N - (m + 1)) + 1 := by omega
    rw [List.append_assoc]
    refine f1 o2 _ ?_
    rw [e]
    exact many_seq D h2
theorem wr_seq {o o1 o2 o3 : Option (List Int)} {k v : List Int} {g : Bool} (h1 : Rds (bytesP 16) o o1 k) (h2 : Rds flagP o1 o2 g) (h3 : Rds txtP o2 o3 v) : Rds wrP o o3 ⟨k, v, g⟩ :=
  h1.seq (h2.seq (h3.seq (.ret _ _)))
set_option maxHeartbeats 2000000 in
set_option maxRecDepth 4000 in
theorem lgetws_any (g : Nat) (zs : List Int) (b : Bool) (w : World) (h : LR w g zs b) :
    Calls Try.prog 31 #[.pointer (some ⟨g, 0, none⟩)] w fun e w' => ∃ (ax : Option Addr) (n cx : Nat) (l : List Wrt), e = .returned (.slice ax n cx) ∧ l.length = n ∧ n ≤ 16 ∧ n ≤ cx ∧ WrtsAt w' ax l ∧ (∀ W ∈ l, W.v.length ≤ 200) ∧ (l ≠ [] → ∀ b o, ax = some ⟨b, o, none⟩ → w.heap.size ≤ b) ∧ LRed w w' g zs b wrsP l := by
  have HG : Hid (g < w.heap.size) := h.lt
  have HF : Hid (LR w g zs b) := h
  clear h
  go_enter Try.func31, Try.ntmps31
  go_wp2_with (first | (go_at_call 59; refine (lupto_any g zs b 16 (by omega) (by omega) _ HF.out).mono ?_; rintro e w0 ⟨n, rfl, n0, n1, ⟨zs0, b0, L0, C0, D0⟩⟩; obtain ⟨N, rfl⟩ : ∃ N : Nat, n = N := ⟨n.toNat, by omega⟩; have HN : Hid (N ≤ 16) := by { show N ≤ 16; omega }; have HS0 : Hid (GwL w w0 g (stL zs0 b0) N (.slice none 0 0) 0) := ⟨zs0, b0, [], L0, C0, ⟨rfl, .inl ⟨rfl, rfl⟩⟩, fun W hW => by simp at hW, fun W hW => by simp at hW, rfl, fun o2 L h => h⟩; have HD0 : Hid (Rds (countP 16) (stL zs b) (stL zs0 b0) (N : Int)) := D0; clear L0 C0 D0))
  go_loopw [3, 7] (fun l i wr => ∃ (m : Nat) (ax : Option Addr) (cx : Nat), m ≤ N ∧ i = .int .i64 m ∧ l = .slice ax m cx ∧ GwL w wr g (stL zs0 b0) N (.slice ax m cx) m) (fun _ i _ => N - (intOf i).toNat)
  case atStart => exact ⟨0, none, 0, Nat.zero_le _, rfl, rfl, HS0.out⟩
  case round =>
    obtain ⟨m, ax, cx, hmN, rfl, rfl, HL⟩ := hrel
    obtain ⟨zs1, b1, done, hx⟩ := HL.ex
    have HX : Hid (LR wr g zs1 b1 ∧ Chg w wr (fun j => j = g) ∧ wr.ownsRow w.heap.size 36 18 (.slice ax m cx) m (done.flatMap encW) ∧ (∀ W ∈ done, WrtOk W) ∧ (∀ W ∈ done, W.v.length ≤ 200) ∧ done.length = m ∧ ∀ o2 L, Rds (manyP wrP (N - m)) (stL zs1 b1) o2 L → Rds (manyP wrP N) (stL zs0 b0) o2 (done ++ L)) := hx
    clear HL HS0 hx
    have hi0 : (0 : Int) ≤ (m : Int) := by omega
    have hi1 : (m : Int) ≤ 16 := by have := HN.out; omega
    by_cases hlt : m < N
    · have hltI : (m : Int) < (N : Int) := by omega
      have HK : Hid (Calls Try.prog 68 #[.pointer (some ⟨g, 0, none⟩)] wr fun e w' => ∃ l : List Int, e = .returned (kv l) ∧ Ky l ∧ LRed wr w' g zs1 b1 (bytesP 16) l) := lkey_any g zs1 b1 wr HX.out.1
      have HGR : Hid (g < wr.heap.size) := HX.out.1.lt
      go_wp2_with (first
        | (have hgo := HE.out; clear hgo; at_builtin; refine wpList_append_chg wrtEl (B := w.heap.size) rfl (.tmp 18) (.tmp 20) rfl HE.out.1 _ m (done.flatMap encW) (encW ⟨K, v, gn⟩) rfl HE.out.2.1 _ _ _ rfl (by rw [encW_len HE.out.2.2.1]) (lies_made2 _ _ _ _ (by simp [World.size_setCell])) (encW_one _) (fun h => by cases h) (by omega) ?_; intro ax6 cx6 w6 own6 C6; have HS6 : Hid (GwL w w6 g (stL zs0 b0) N (.slice ax6 (m + 1) cx6) (m + 1)) := HE.out.2.2.2 ax6 cx6 w6 own6 C6; clear own6 C6 HE)
        | ((with_reducible show wpList _ _ _ (Oper.mk (some 20) _ _ _ _ _ :: _) _ _); refine wpList_build_ws1 20 (by rfl) (by rfl) (.tmp 19) (by rfl) ⟨K, v, gn⟩ HE.out.2.2.1 (by rfl) ?_)
        | ((with_reducible show wpList _ _ _ (Oper.mk (some 19) _ _ _ _ _ :: _) _ _); refine wpList_load_wrt 19 (by rfl) (by rfl) _ (by rfl) w1.heap.size 0 (by rfl) ⟨K, v, gn⟩ HE.out.2.2.1 HM5.out.mine.at_ ?_)
        | (have hgo := H3.out; clear hgo; go_at_call 69; refine (ltext_any g zs3 b3 _ H3.out.1.lr).mono ?_; rintro e w4 ⟨v, rfl, v1, v2, ⟨zs4, b4, L4, C4, D4⟩⟩; have M4 : RB wr w4 g w1.heap.size zs4 b4 ⟨K, [], gn⟩ := H3.out.1.turn C4 L4; have c16 : w4.cell? ⟨w1.heap.size, 16, none⟩ = some (.string (strOfNums [])) := by { have := (M4.mine.at_.cells M4.mine.key).1; rwa [Nat.zero_add] at this }; have f16 : w4.frozen? ⟨w1.heap.size, 16, none⟩ = false := by { have := M4.mine.free 16 (by omega); rwa [Nat.zero_add] at this }; have HM5 : Hid (RB wr (w4.setCell ⟨w1.heap.size, 16, none⟩ (.string (strOfNums v))) g w1.heap.size zs4 b4 ⟨K, v, gn⟩) := M4.set 16 _ (M4.mine.setV v); have HE : Hid (w.heap.size ≤ ((w4.setCell ⟨w1.heap.size, 16, none⟩ (.string (strOfNums v))).alloc (.cells (encW ⟨K, v, gn⟩).toArray 36)).heap.size ∧ ((w4.setCell ⟨w1.heap.size, 16, none⟩ (.string (strOfNums v))).alloc (.cells (encW ⟨K, v, gn⟩).toArray 36)).ownsRow w.heap.size 36 18 (.slice ax m cx) m (done.flatMap encW) ∧ Ky K ∧ ∀ ax6 cx6 w6, w6.ownsRow w.heap.size 36 18 (.slice ax6 (m + 1) cx6) (m + 1) (done.flatMap encW ++ encW ⟨K, v, gn⟩) → Chg ((w4.setCell ⟨w1.heap.size, 16, none⟩ (.string (strOfNums v))).alloc (.cells (encW ⟨K, v, gn⟩).toArray 36)) w6 (fun j => w.heap.size ≤ j) → GwL w w6 g (stL zs0 b0) N (.slice ax6 (m + 1) cx6) (m + 1)) := ⟨Nat.le_trans HX.out.2.1.size (Nat.le_trans HM5.out.chg.size (by simp)), owns_stay HX.out.2.2.1 (fun r h1 h2 => (Below.heap_alloc _ _ r (Nat.lt_of_lt_of_le h2 HM5.out.chg.size)).trans (HM5.out.chg.block r h2 (by have := HG.out; omega))), H3.out.2.1, fun ax6 cx6 w6 own6 C6 => GwL.next HG.out HX.out hlt HM5.out ⟨H3.out.2.1, v1, by { show v.length ≤ maxLen; unfold maxLen; omega }⟩ v2 (wr_seq H3.out.2.2.1 H3.out.2.2.2 D4) own6 C6⟩; clear M4 v1 v2 L4 C4 D4 H3)
        | (have hgo := H2.out; clear hgo; go_at_call 63; refine (lflag_any g zs2 b2 _ H2.out.1.lr).mono ?_; rintro e w3 ⟨gn, rfl, ⟨zs3, b3, L3, C3, D3⟩⟩; have M3 : RB wr w3 g w1.heap.size zs3 b3 ⟨K, [], false⟩ := H2.out.1.turn C3 L3; have c17 : w3.cell? ⟨w1.heap.size, 17, none⟩ = some (.bool false) := by { have := (M3.mine.at_.cells M3.mine.key).2; rwa [Nat.zero_add] at this }; have f17 : w3.frozen? ⟨w1.heap.size, 17, none⟩ = false := by { have := M3.mine.free 17 (by omega); rwa [Nat.zero_add] at this }; have H3 : Hid (RB wr (w3.setCell ⟨w1.heap.size, 17, none⟩ (.bool gn)) g w1.heap.size zs3 b3 ⟨K, [], gn⟩ ∧ Ky K ∧ Rds (bytesP 16) (stL zs1 b1) (stL zs2 b2) K ∧ Rds flagP (stL zs2 b2) (stL zs3 b3) gn) := ⟨M3.set 17 _ (M3.mine.setG gn), H2.out.2.1, H2.out.2.2, D3⟩; clear M3 L3 C3 D3 H2)
        | (have hgo := HP.out; clear hgo; (with_reducible show wpList _ _ _ (Oper.mk none _ _ _ _ _ :: _) _ _); refine wpList_store_wrt (.tmp 4) (by rfl) _ (by rfl) w1.heap.size 0 zeroW ⟨K, [], false⟩ (by rfl) (by rfl) HP.out.1 (WrtMine.made w1 36 zeroW zeroW_ky) ?_; intro w2 hw2; have H2 : Hid (RB wr w2 g w1.heap.size zs2 b2 ⟨K, [], false⟩ ∧ Ky K ∧ Rds (bytesP 16) (stL zs1 b1) (stL zs2 b2) K) := by { obtain ⟨M3, B3, _⟩ := laid_wrt w1 36 (W := ⟨K, [], false⟩) HP.out.1; rw [zeroW_cells, ← hw2] at M3 B3; exact ⟨⟨HP.out.2.1.past B3, HP.out.2.2.1.trans (Chg.of_below B3 _) (fun _ _ x => x), M3, HP.out.2.2.1.size, HGR.out⟩, HP.out.1, HP.out.2.2.2⟩ }; clear hw2 HP)
        | ((with_reducible show wpList _ _ _ (Oper.mk (some 11) _ _ _ _ _ :: _) _ _); refine wpList_build_w1 11 (by rfl) (by rfl) (.tmp 10) (by rfl) K HP.out.1 (by rfl) ?_)
        | (go_at_call 68; refine HK.out.mono ?_; rintro e w1 ⟨K, rfl, ky, ⟨⟨zs2, b2, L2, C2, D2⟩⟩⟩; have HP : Hid (Ky K ∧ LR w1 g zs2 b2 ∧ Chg wr w1 (fun j => j = g) ∧ Rds (bytesP 16) (stL zs1 b1) (stL zs2 b2) K) := ⟨ky, L2, C2, D2⟩; clear ky L2 C2 D2))
      exact ⟨⟨m + 1, ax6, cx6, by omega, by simp, rfl, HS6.out⟩, by simp [intOf]; omega⟩
    · obtain rfl : m = N := by omega
      have EX : Hid (Rds wrsP (stL zs b) (stL zs1 b1) done) := by
        have h2 := HX.out.2.2.2.2.2.2 (stL zs1 b1) [] (by rw [Nat.sub_self]; exact .ret [] _)
        rw [List.append_nil] at h2
        exact HD0.out.seq (by rw [Int.toNat_natCast]; exact h2)
      clear HD0
      go_wp2
      go_returns
      have q := own_end HG.out HX.out.2.2.1 (Chg.refl wr _) HX.out.2.2.2.1 HX.out.2.2.2.2.2.1
      exact ⟨ax, m, cx, done, rfl, HX.out.2.2.2.2.2.1, HN.out, q.1, q.2.1, HX.out.2.2.2.2.1, q.2.2, ⟨zs1, b1, HX.out.1, HX.out.2.1, EX.out⟩⟩
end Go.Proofs.Ytmiafadmcpmjgaa

namespace Go.Proofs.Ytmiafadmcpmjgaa
open Go.RowKit
set_option linter.unusedVariables false

def ivs (l : List Int) : List Value := l.map (Value.int .i64)
theorem ivs_app (a b : List Int) : ivs (a ++ b) = ivs a ++ ivs b := by simp [ivs]
theorem intEl : ElT 26 3 1 8 := ElT.mk' (z := .int .i64 0) Try.underlying26 (by kernel_rfl) (by kernel_rfl) (by decide) (by decide)
theorem own_ints {w : World} {B m : Nat} {a : Option Addr} {c : Nat} {l : List Int} (h : w.ownsRow B 3 1 (.slice a m c) m (ivs l)) (hb : ∀ z ∈ l, -9223372036854775808 ≤ z ∧ z ≤ 9223372036854775807) : l.length = m ∧ m ≤ c ∧ IntsAt w a l ∧ (l ≠ [] → ∀ b o, a = some ⟨b, o, none⟩ → B ≤ b) := by
  have hl : l.length = m := by have := h.1; simpa [ivs] using this
  rcases h.2 with ⟨e, h0⟩ | ⟨g, cap, cur, e, h1, h2, h3, h4⟩
  · injection e with e1 e2 e3
    have e0 : l = [] := List.eq_nil_of_length_eq_zero (by omega)
    subst e0
    exact ⟨hl, by omega, ⟨.inl rfl, hb⟩, fun h => absurd rfl h⟩
  · injection e with e1 e2 e3
    subst e1
    refine ⟨hl, by omega, ⟨.inr ⟨g, 0, rfl, fun j hj => ?_⟩, hb⟩, fun _ b o e => by injection e with e; injection e with e; omega⟩
    have := h.cells (g := g) rfl j (.int .i64 (l.getD j 0)) (by simp [ivs, hj])
    rw [add_plain] at this
    exact this
/-- What the rounds hold. -/
structure GpL (w wr : World) (g : Nat) (o0 : Option (List Int)) (N : Nat) (v : Value) (m : Nat) : Prop where
  ex : ∃ (zs : List Int) (b : Bool) (done : List Int), LR wr g zs b ∧ Chg w wr (fun j => j = g) ∧ wr.ownsRow w.heap.size 3 1 v m (ivs done) ∧ (∀ z ∈ done, 0 ≤ z ∧ z ≤ 7) ∧ done.length = m ∧ ∀ o2 L, Rds (manyP (countP 7) (N - m)) (stL zs b) o2 L → Rds (manyP (countP 7) N) o0 o2 (done ++ L)
theorem GpL.next {w wr w1 : World} {g : Nat} {zs1 zs2 : List Int} {b1 b2 : Bool} {o0 : Option (List Int)} {N m : Nat} {ax : Option Addr} {cx : Nat} {done : List Int} {v : Int} (hg : g < w.heap.size)
    (hx : LR wr g zs1 b1 ∧ Chg w wr (fun j => j = g) ∧ wr.ownsRow w.heap.size 3 1 (.slice ax m cx) m (ivs done) ∧ (∀ z ∈ done, 0 ≤ z ∧ z ≤ 7) ∧ done.length = m ∧ ∀ o2 L, Rds (manyP (countP 7) (N - m)) (stL zs1 b1) o2 L → Rds (manyP (countP 7) N) o0 o2 (done ++ L)) (hlt : m < N) (v0 : 0 ≤ v) (v1 : v ≤ 7) (L2 : LR w1 g zs2 b2) (C2 : Chg wr w1 (fun j => j = g)) (D2 : Rds (countP 7) (stL zs1 b1) (stL zs2 b2) v) :
    w.heap.size ≤ (w1.alloc (.cells #[.int .i64 v] 3)).heap.size ∧ (w1.alloc (.cells #[.int .i64 v] 3)).ownsRow w.heap.size 3 1 (.slice ax m cx) m (ivs done) ∧ ∀ ax6 cx6 w6, w6.ownsRow w.heap.size 3 1 (.slice ax6 (m + 1) cx6) (m + 1) (ivs done ++ [.int .i64 v]) → Chg (w1.alloc (.cells #[.int .i64 v] 3)) w6 (fun j => w.heap.size ≤ j) → GpL w w6 g o0 N (.slice ax6 (m + 1) cx6) (m + 1) := by
  have ba : Below w1.heap.size w1 (w1.alloc (.cells #[.int .i64 v] 3)) := (Below.refl _ _).alloc (Nat.le_refl _) _
  have c1 : Chg w (w1.alloc (.cells #[.int .i64 v] 3)) (fun j => j = g) := (hx.2.1.trans C2 (fun _ _ x => x)).trans (Chg.of_below ba _) (fun _ _ x => x)
  have c2 : Chg wr (w1.alloc (.cells #[.int .i64 v] 3)) (fun j => j = g) := C2.trans (Chg.of_below ba _) (fun _ _ x => x)
  refine ⟨c1.size, owns_stay hx.2.2.1 (fun r h1 h2 => c2.block r h2 (by omega)), fun ax6 cx6 w6 own6 C6 => ⟨zs2, b2, done ++ [v], (L2.past ba).above C6 (fun j e => by omega), c1.trans C6 (fun j hj e => by omega), by rw [ivs_app]; exact own6, fun z hz => ?_, by simp [hx.2.2.2.2.1], fun o2 L h2 => ?_⟩⟩
  · rcases List.mem_append.1 hz with e | e
    · exact hx.2.2.2.1 z e
    · simp at e; rw [e]; exact ⟨v0, v1⟩
  · have e : N - m = (N - (m + 1)) + 1 := by omega
    rw [List.append_assoc]
    refine hx.2.2.2.2.2 o2 _ ?_
    rw [e]
    exact many_seq D2 h2
set_option maxHeartbeats 2000000 in
set_option maxRecDepth 4000 in
theorem lgetps_any (g : Nat) (zs : List Int) (b : Bool) (w : World) (h : LR w g zs b) :
    Calls Try.prog 64 #[.pointer (some ⟨g, 0, none⟩)] w fun e w' => ∃ (ax : Option Addr) (n cx : Nat) (l : List Int), e = .returned (.slice ax n cx) ∧ l.length = n ∧ n ≤ 8 ∧ n ≤ cx ∧ IntsAt w' ax l ∧ (l ≠ [] → ∀ b o, ax = some ⟨b, o, none⟩ → w.heap.size ≤ b) ∧ LRed w w' g zs b partsP l := by
  have HG : Hid (g < w.heap.size) := h.lt
  have HF : Hid (LR w g zs b) := h
  clear h
  go_enter Try.func64, Try.ntmps64
  go_wp2_with (first | (have hgo := HF.out; clear hgo; go_at_call 59; refine (lupto_any g zs b 8 (by omega) (by omega) _ HF.out).mono ?_; rintro e w0 ⟨n, rfl, n0, n1, ⟨zs0, b0, L0, C0, D0⟩⟩; obtain ⟨N, rfl⟩ : ∃ N : Nat, n = N := ⟨n.toNat, by omega⟩; have HN : Hid (N ≤ 8) := by { show N ≤ 8; omega }; have HS0 : Hid (GpL w w0 g (stL zs0 b0) N (.slice none 0 0) 0) := ⟨zs0, b0, [], L0, C0, ⟨rfl, .inl ⟨rfl, rfl⟩⟩, fun W hW => by simp at hW, rfl, fun o2 L h => h⟩; have HD0 : Hid (Rds (countP 8) (stL zs b) (stL zs0 b0) (N : Int)) := D0; clear L0 C0 D0 HF))
  go_loopw [3, 6] (fun l i wr => ∃ (m : Nat) (ax : Option Addr) (cx : Nat), m ≤ N ∧ i = .int .i64 m ∧ l = .slice ax m cx ∧ GpL w wr g (stL zs0 b0) N (.slice ax m cx) m) (fun _ i _ => N - (intOf i).toNat)
  case atStart => exact ⟨0, none, 0, Nat.zero_le _, rfl, rfl, HS0.out⟩
  case round =>
    obtain ⟨m, ax, cx, hmN, rfl, rfl, HL⟩ := hrel
    obtain ⟨zs1, b1, done, hx⟩ := HL.ex
    have HX : Hid (LR wr g zs1 b1 ∧ Chg w wr (fun j => j = g) ∧ wr.ownsRow w.heap.size 3 1 (.slice ax m cx) m (ivs done) ∧ (∀ z ∈ done, 0 ≤ z ∧ z ≤ 7) ∧ done.length = m ∧ ∀ o2 L, Rds (manyP (countP 7) (N - m)) (stL zs1 b1) o2 L → Rds (manyP (countP 7) N) (stL zs0 b0) o2 (done ++ L)) := hx
    clear HL HS0 hx
    have hi0 : (0 : Int) ≤ (m : Int) := by omega
    have hi1 : (m : Int) ≤ 8 := by have := HN.out; omega
    by_cases hlt : m < N
    · have hltI : (m : Int) < (N : Int) := by omega
      have HK : Hid (Calls Try.prog 59 #[.pointer (some ⟨g, 0, none⟩), .int .i64 7] wr fun e w' => ∃ v : Int, e = .returned (.int .i64 v) ∧ 0 ≤ v ∧ v ≤ 7 ∧ LRed wr w' g zs1 b1 (countP 7) v) := lupto_any g zs1 b1 7 (by omega) (by omega) wr HX.out.1
      go_wp2_with (first
        | (have hgo := HE.out; clear hgo; at_builtin; refine wpList_append_chg intEl (B := w.heap.size) rfl (.tmp 8) (.tmp 11) rfl HE.out.1 _ m (ivs done) [.int .i64 v] rfl HE.out.2.1 _ _ _ rfl rfl (lies_made2 _ _ _ _ rfl) (by simp [Value.oneCell']) (fun h => by cases h) (by omega) ?_; intro ax6 cx6 w6 own6 C6; have HS6 : Hid (GpL w w6 g (stL zs0 b0) N (.slice ax6 (m + 1) cx6) (m + 1)) := HE.out.2.2 ax6 cx6 w6 own6 C6; clear own6 C6 HE)
        | (have hgo := HK.out; clear hgo; go_at_call 59; refine HK.out.mono ?_; rintro e w1 ⟨v, rfl, v0, v1, ⟨⟨zs2, b2, L2, C2, D2⟩⟩⟩; have HE : Hid (w.heap.size ≤ (w1.alloc (.cells #[.int .i64 v] 3)).heap.size ∧ (w1.alloc (.cells #[.int .i64 v] 3)).ownsRow w.heap.size 3 1 (.slice ax m cx) m (ivs done) ∧ ∀ ax6 cx6 w6, w6.ownsRow w.heap.size 3 1 (.slice ax6 (m + 1) cx6) (m + 1) (ivs done ++ [.int .i64 v]) → Chg (w1.alloc (.cells #[.int .i64 v] 3)) w6 (fun j => w.heap.size ≤ j) → GpL w w6 g (stL zs0 b0) N (.slice ax6 (m + 1) cx6) (m + 1)) := GpL.next HG.out HX.out hlt v0 v1 L2 C2 D2; clear v0 v1 L2 C2 D2 HK))
      exact ⟨⟨m + 1, ax6, cx6, by omega, by simp, rfl, HS6.out⟩, by simp [intOf]; omega⟩
    · obtain rfl : m = N := by omega
      have EX : Hid (Rds partsP (stL zs b) (stL zs1 b1) done) := by
        have h2 := HX.out.2.2.2.2.2 (stL zs1 b1) [] (by rw [Nat.sub_self]; exact .ret [] _)
        rw [List.append_nil] at h2
        exact HD0.out.seq (by rw [Int.toNat_natCast]; exact h2)
      clear HD0
      go_wp2
      go_returns
      have q := own_ints HX.out.2.2.1 (fun z hz => by have := HX.out.2.2.2.1 z hz; omega)
      exact ⟨ax, m, cx, done, rfl, HX.out.2.2.2.2.1, HN.out, q.2.1, q.2.2.1, q.2.2.2, ⟨zs1, b1, HX.out.1, HX.out.2.1, EX.out⟩⟩
set_option maxHeartbeats 1000000 in
theorem lgoodps_any (a : Option Addr) (N cap : Nat) (l : List Int) (w : World) (hl : l.length = N) (hN : N ≤ 1000000) (h : IntsAt w a l) :
    Calls Try.prog 36 #[.slice a N cap] w fun e w' => e = .returned (.bool (partsB l)) ∧ w' = w := by
  by_cases h0 : N = 0
  · subst h0
    have e : l = [] := List.eq_nil_of_length_eq_zero hl
    subst e
    have E : Hid (partsB [] = false) := rfl
    clear hl h hN
    go_enter Try.func36, Try.ntmps36
    go_wp2
    refine wp_loop_rounds 1 ?_
    rw [rounds_succ]
    go_wp2
    go_returns
    exact ⟨rfl, rfl⟩
  · obtain ⟨b, off, rfl, hc⟩ : ∃ b off, a = some ⟨b, off, none⟩ ∧ ∀ j, j < l.length → w.cell? ⟨b, off + j, none⟩ = some (.int .i64 (l.getD j 0)) := by
      rcases h.cells with e | e
      · rw [e] at hl; simp at hl; exact absurd hl.symm h0
      · exact e
    have HC : Hid (∀ j, j < N → w.cell? ⟨b, off + j, none⟩ = some (.int .i64 (l.getD j 0))) := fun j hj => hc j (by omega)
    have HBD : Hid (∀ j, j < N → -9223372036854775808 ≤ l.getD j 0 ∧ l.getD j 0 ≤ 9223372036854775807) := fun j hj => h.bounds _ (by rw [List.getD_eq_getElem?_getD, List.getElem?_eq_getElem (by omega)]; exact List.getElem_mem _)
    have HP : Hid (partsB l = upP (prevP l 0) (l.drop 0)) := by
      show (upP (-1) l && decide (0 < l.length)) = upP (-1) l
      rw [decide_eq_true (by omega), Bool.and_true]
    have HU : Hid (∀ i, i < N → upP (prevP l i) (l.drop i) = (decide (prevP l i < l.getD i 0 ∧ 0 ≤ l.getD i 0 ∧ l.getD i 0 ≤ 7) && upP (prevP l (i + 1)) (l.drop (i + 1)))) := fun i hi => up_step (by omega)
    have HZ : Hid (∀ i, ¬ i < N → upP (prevP l i) (l.drop i) = true) := fun i hi => by rw [List.drop_eq_nil_of_le (by omega)]; rfl
    have HPN : Hid (∀ i, prevP l (i + 1) = l.getD i 0) := fun i => by unfold prevP; simp
    have hpos : (0 : Int) < (N : Int) := by omega
    clear h hc hl h0
    go_enter Try.func36, Try.ntmps36
    go_wp2
    go_loopw [3, 8] (fun p i wr => ∃ (n : Nat) (x : Int), n ≤ N ∧ i = .int .i64 n ∧ p = .int .i64 x ∧ wr = w ∧ 0 ≤ x ∧ x ≤ 8 ∧ Hid (prevP l n = x - 1) ∧ Hid (partsB l = upP (prevP l n) (l.drop n))) (fun _ i _ => N - (intOf i).toNat)
    case atStart => exact ⟨0, 0, Nat.zero_le _, rfl, rfl, rfl, by omega, by omega, rfl, HP⟩
    case round =>
      obtain ⟨n, x, hn, rfl, rfl, rfl, hx0, hx8, HPX, HI⟩ := hrel
      have hn0 : (0 : Int) ≤ (n : Int) := by omega
      by_cases hlt : n < N
      · have hcn := HC.out n hlt
        have HS : Hid (partsB l = (decide (prevP l n < l.getD n 0 ∧ 0 ≤ l.getD n 0 ∧ l.getD n 0 ≤ 7) && upP (prevP l (n + 1)) (l.drop (n + 1)))) := HI.out.trans (HU.out n hlt)
        rw [HPX.out] at HS
        have HPN2 := HPN.out n
        obtain ⟨X, hX⟩ : ∃ X, X = l.getD n 0 := ⟨_, rfl⟩
        rw [← hX] at hcn HS HPN2
        have HPN3 : Hid (prevP l (n + 1) = X) := HPN2
        have hltI : (n : Int) < (N : Int) := by omega
        clear HI hX HPN2 HPX
        by_cases c1 : X < x
        · have E : Hid (partsB l = false) := by rw [HS.out, decide_eq_false (by omega)]; rfl
          clear HS
          go_wp2
          go_returns
          exact ⟨by rw [E.out]; rfl, rfl⟩
        · have c1' : decide (X < x) = false := decide_eq_false c1
          by_cases c2 : 8 ≤ X
          · have E : Hid (partsB l = false) := by rw [HS.out, decide_eq_false (by omega)]; rfl
            clear HS
            go_wp2
            go_returns
            exact ⟨by rw [E.out]; rfl, rfl⟩
          · have c2' : decide (8 ≤ X) = false := decide_eq_false c2
            have E : Hid (partsB l = upP (prevP l (n + 1)) (l.drop (n + 1))) := by rw [HS.out, decide_eq_true (by omega), Bool.true_and]; exact rfl
            have EX : Hid (prevP l (n + 1) = (X + 1) - 1) := by rw [HPN3.out]; show X = _; omega
            clear HS HPN3
            go_wp2
            exact ⟨⟨n + 1, X + 1, by omega, by go_num, by go_num, by first | rfl | trivial, by omega, by omega, EX, E⟩, by simp [intOf]; omega⟩
      · have E : Hid (partsB l = true) := HI.out.trans (HZ.out n hlt)
        have hnN : n = N := by omega
        subst hnN
        clear HI
        go_wp2
        go_returns
        exact ⟨by rw [E.out]; exact congrArg (fun x => Ending.returned (Value.bool x)) (decide_eq_true (by omega)), rfl⟩
end Go.Proofs.Ytmiafadmcpmjgaa

namespace Go.Proofs.Ytmiafadmcpmjgaa
open Go.RowKit
set_option linter.unusedVariables false

theorem wrt_eq {A B : Wrt} : A = B ↔ A.k = B.k ∧ A.v = B.v ∧ A.g = B.g := by
  constructor
  · rintro rfl; exact ⟨rfl, rfl, rfl⟩
  · rintro ⟨h1, h2, h3⟩
    cases A; cases B; simp_all
open Classical in
set_option maxHeartbeats 1000000 in
theorem eq_wrt (w : World) (A B : Wrt) (hA : WrtOk A) (hB : WrtOk B) : (Op.equalIn 10000 36 (wv A) (wv B)).run Try.prog w = .ok (decide (A = B)) w := by
  obtain ⟨a0, a1, a2⟩ := encW_parts hA.key
  obtain ⟨b0, b1, b2⟩ := encW_parts hB.key
  have hk := fun u => eq_key9w u A.k B.k hA.key hB.key
  have hs := str_eq hA.val hB.val
  have hd : decide (A = B) = (decide (A.k = B.k) && decide (A.v = B.v) && (A.g == B.g)) := by
    rw [Bool.eq_iff_iff]
    simp [wrt_eq, and_assoc]
  rw [hd]
  clear hd
  go_simp
  by_cases h1 : A.k = B.k
  · by_cases h4 : A.v = B.v
    · by_cases h5 : A.g = B.g <;> simp [h1, h4, h5]
    · simp [h1, h4]
  · simp [h1]
theorem lists_ne {α : Type} {L M : List α} {i : Nat} {V W : α} (hV : L[i]? = some V) (hW : M[i]? = some W) (h : V ≠ W) : L ≠ M := fun e => by
  rw [e, hW] at hV
  injection hV with hV
  exact h hV.symm
theorem lists_eq {α : Type} {L M : List α} {N : Nat} (h1 : L.length = N) (h2 : M.length = N) (h : ∀ j, j < N → L[j]? = M[j]?) : L = M := by
  refine List.ext_getElem? (fun j => ?_)
  by_cases hj : j < N
  · exact h j hj
  · rw [List.getElem?_eq_none (by omega), List.getElem?_eq_none (by omega)]
theorem same_next {α : Type} {L M : List α} {i : Nat} (h : ∀ j, j < i → L[j]? = M[j]?) {V : α} (h1 : L[i]? = some V) (h2 : M[i]? = some V) : ∀ j, j < i + 1 → L[j]? = M[j]? := fun j hj => by
  by_cases e : j = i
  · rw [e, h1, h2]
  · exact h j (by omega)
set_option maxHeartbeats 4000000 in
set_option maxRecDepth 4000 in
open Classical in
theorem lequal_any (a a' : Option Addr) (N N' c c' : Nat) (l l' : List Wrt) (w : World) (hl : l.length = N) (hl' : l'.length = N') (hc : N ≤ c) (hc' : N' ≤ c') (hN : N ≤ 1000000) (hN' : N' ≤ 1000000) (h : WrtsAt w a l) (h' : WrtsAt w a' l') :
    Calls Try.prog 53 #[.slice a N c, .slice a' N' c'] w fun e w' => e = .returned (.bool (decide (l = l'))) ∧ Below w.heap.size w w' := by
  have HA : Hid (WrtsAt w a l) := h
  have HA' : Hid (WrtsAt w a' l') := h'
  have HL : Hid (l.length = N) := hl
  have HL' : Hid (l'.length = N') := hl'
  by_cases hnn : N = N'
  · subst hnn
    have bn : (((N : Nat) : Int) != ((N : Nat) : Int)) = false := by simp
    obtain ⟨R, hR⟩ : ∃ R, R = decide (l = l') := ⟨_, rfl⟩
    have HR : Hid (R = decide (l = l')) := hR
    rw [← hR]
    clear h h' hl hl' hR
    go_enter Try.func53, Try.ntmps53
    go_wp2
    go_loopw [13] (fun iv wr => ∃ i : Nat, iv = .int .i64 i ∧ i ≤ N ∧ Hid (Below w.heap.size w wr ∧ ∀ j, j < i → l[j]? = l'[j]?)) (fun iv _ => N - (intOf iv).toNat)
    case atStart => exact ⟨0, rfl, Nat.zero_le _, Below.refl _ _, fun j hj => by omega⟩
    case round =>
      obtain ⟨i, rfl, hi, HB⟩ := hrel
      have hi0 : (0 : Int) ≤ (i : Int) := by omega
      by_cases hlt : i < N
      · have bl : (i : Int) < (N : Int) := by omega
        obtain ⟨V, hV⟩ : ∃ V, l[i]? = some V := ⟨_, List.getElem?_eq_getElem (by rw [HL.out]; exact hlt)⟩
        obtain ⟨V', hV'⟩ : ∃ V, l'[i]? = some V := ⟨_, List.getElem?_eq_getElem (by rw [HL'.out]; exact hlt)⟩
        obtain ⟨g, o, rfl, hva, hvo⟩ := (HA.out.past HB.out.1).wrt hV
        obtain ⟨g', o', rfl, hwa, hwo⟩ := (HA'.out.past HB.out.1).wrt hV'
        have KV : Hid (WrtOk V) := hvo
        have KV' : Hid (WrtOk V') := hwo
        have FV : Hid (∀ u, Below wr.heap.size wr u → WrtAt u g (o + i * 18) V) := fun u hb => hva.past hb
        have FW : Hid (∀ u, Below wr.heap.size wr u → WrtAt u g' (o' + i * 18) V') := fun u hb => hwa.past hb
        by_cases hvv : V = V'
        · subst hvv
          have heq := fun u => eq_wrt u V V KV.out KV.out
          rw [decide_eq_true (rfl : V = V)] at heq
          have HN1 : Hid (∀ j, j < i + 1 → l[j]? = l'[j]?) := same_next HB.out.2 hV hV'
          clear hV hV' hva hvo hwa hwo
          go_wp2
          refine wp_region_noPanic ?_
          refine wp_region_held_drew (S := fun u => Below wr.heap.size wr u) (by kernel_rfl) ?_ (fun hHeld => ?_)
          · exact (Below.refl _ _).drew
          refine wpAnyH_take (i := 0) (v := ?_) rfl (by kernel_rfl) (by kernel_rfl) (by kernel_rfl) (fun _ _ _ h => h) (Or.inl ⟨by rfl, ?_⟩) hHeld ?_
          rotate_left
          · intro u hSu
            (go_simp) <;> (with_reducible rfl)
          change wpAnyH _ _ _ _ _ _ _ (Act.put _ (some 16) _) _
          simp only [Act.put, List.setIfInBounds_toArray, List.set_cons_zero, List.set_cons_succ]
          refine wpAnyH_take (i := 1) (v := ?_) rfl (by kernel_rfl) (by kernel_rfl) (by kernel_rfl) (fun _ _ _ h => h) (Or.inl ⟨by rfl, ?_⟩) hHeld ?_
          rotate_left
          · intro u hSu
            (go_simp) <;> (with_reducible rfl)
          change wpAnyH _ _ _ _ _ _ _ (Act.put _ (some 17) _) _
          simp only [Act.put, List.setIfInBounds_toArray, List.set_cons_zero, List.set_cons_succ]
          refine wpAnyH_take (i := 2) (v := ?_) rfl (by kernel_rfl) (by kernel_rfl) (by kernel_rfl) (fun _ _ _ h => h) (Or.inl ⟨by rfl, ?_⟩) hHeld ?_
          rotate_left
          · intro u hSu
            (go_simp) <;> (with_reducible rfl)
          change wpAnyH _ _ _ _ _ _ _ (Act.put _ (some 18) _) _
          simp only [Act.put, List.setIfInBounds_toArray, List.set_cons_zero, List.set_cons_succ]
          refine wpAnyH_take (i := 3) (v := wv V) rfl (by kernel_rfl) (by kernel_rfl) (by kernel_rfl) (fun _ _ _ h => h) (yieldsIf_load_mid (by rfl) _ _ rfl _ _ rfl (encW V) _ (fun u hu => (FV.out u hu).range) Try.underlying36 rfl (info_wrtl V KV.out.key)) hHeld ?_
          change wpAnyH _ _ _ _ _ _ _ (Act.put _ (some 19) _) _
          simp only [Act.put, List.setIfInBounds_toArray, List.set_cons_zero, List.set_cons_succ]
          refine wpAnyH_take (i := 4) (v := ?_) rfl (by kernel_rfl) (by kernel_rfl) (by kernel_rfl) (fun _ _ _ h => h) (Or.inl ⟨by rfl, ?_⟩) hHeld ?_
          rotate_left
          · intro u hSu
            (go_simp) <;> (with_reducible rfl)
          change wpAnyH _ _ _ _ _ _ _ (Act.put _ (some 20) _) _
          simp only [Act.put, List.setIfInBounds_toArray, List.set_cons_zero, List.set_cons_succ]
          refine wpAnyH_take (i := 5) (v := ?_) rfl (by kernel_rfl) (by kernel_rfl) (by kernel_rfl) (fun _ _ _ h => h) (Or.inl ⟨by rfl, ?_⟩) hHeld ?_
          rotate_left
          · intro u hSu
            (go_simp) <;> (with_reducible rfl)
          change wpAnyH _ _ _ _ _ _ _ (Act.put _ (some 21) _) _
          simp only [Act.put, List.setIfInBounds_toArray, List.set_cons_zero, List.set_cons_succ]
          refine wpAnyH_take (i := 6) (v := ?_) rfl (by kernel_rfl) (by kernel_rfl) (by kernel_rfl) (fun _ _ _ h => h) (Or.inl ⟨by rfl, ?_⟩) hHeld ?_
          rotate_left
          · intro u hSu
            (go_simp) <;> (with_reducible rfl)
          change wpAnyH _ _ _ _ _ _ _ (Act.put _ (some 22) _) _
          simp only [Act.put, List.setIfInBounds_toArray, List.set_cons_zero, List.set_cons_succ]
          refine wpAnyH_take (i := 7) (v := wv V) rfl (by kernel_rfl) (by kernel_rfl) (by kernel_rfl) (fun _ _ _ h => h) (yieldsIf_load_mid (by rfl) _ _ rfl _ _ rfl (encW V) _ (fun u hu => (FW.out u hu).range) Try.underlying36 rfl (info_wrtl V KV.out.key)) hHeld ?_
          change wpAnyH _ _ _ _ _ _ _ (Act.put _ (some 23) _) _
          simp only [Act.put, List.setIfInBounds_toArray, List.set_cons_zero, List.set_cons_succ]
          refine wpAnyH_take (i := 8) (v := ?_) rfl (by kernel_rfl) (by kernel_rfl) (by kernel_rfl) (fun _ _ _ h => h) (Or.inl ⟨by rfl, ?_⟩) hHeld ?_
          rotate_left
          · intro u hSu
            (go_simp) <;> (with_reducible rfl)
          change wpAnyH _ _ _ _ _ _ _ (Act.put _ (some 24) _) _
          simp only [Act.put, List.setIfInBounds_toArray, List.set_cons_zero, List.set_cons_succ]
          refine wpAnyH_done (by kernel_rfl) ?_ _
          refine NoPanic.normal ?_
          go_wp2
          go_roundw
          case rel => exact ⟨i + 1, by go_num, by omega, HB.out.1.drew, HN1.out⟩
          case measure => simp [intOf]; omega
        · have heq := fun u => eq_wrt u V V' KV.out KV'.out
          rw [decide_eq_false hvv] at heq
          have E : Hid (R = false) := by rw [HR.out]; exact decide_eq_false (lists_ne hV hV' hvv)
          clear hV hV' hva hvo hwa hwo hvv
          go_wp2
          refine wp_region_noPanic ?_
          refine wp_region_held_drew (S := fun u => Below wr.heap.size wr u) (by kernel_rfl) ?_ (fun hHeld => ?_)
          · exact (Below.refl _ _).drew
          refine wpAnyH_take (i := 0) (v := ?_) rfl (by kernel_rfl) (by kernel_rfl) (by kernel_rfl) (fun _ _ _ h => h) (Or.inl ⟨by rfl, ?_⟩) hHeld ?_
          rotate_left
          · intro u hSu
            (go_simp) <;> (with_reducible rfl)
          change wpAnyH _ _ _ _ _ _ _ (Act.put _ (some 16) _) _
          simp only [Act.put, List.setIfInBounds_toArray, List.set_cons_zero, List.set_cons_succ]
          refine wpAnyH_take (i := 1) (v := ?_) rfl (by kernel_rfl) (by kernel_rfl) (by kernel_rfl) (fun _ _ _ h => h) (Or.inl ⟨by rfl, ?_⟩) hHeld ?_
          rotate_left
          · intro u hSu
            (go_simp) <;> (with_reducible rfl)
          change wpAnyH _ _ _ _ _ _ _ (Act.put _ (some 17) _) _
          simp only [Act.put, List.setIfInBounds_toArray, List.set_cons_zero, List.set_cons_succ]
          refine wpAnyH_take (i := 2) (v := ?_) rfl (by kernel_rfl) (by kernel_rfl) (by kernel_rfl) (fun _ _ _ h => h) (Or.inl ⟨by rfl, ?_⟩) hHeld ?_
          rotate_left
          · intro u hSu
            (go_simp) <;> (with_reducible rfl)
          change wpAnyH _ _ _ _ _ _ _ (Act.put _ (some 18) _) _
          simp only [Act.put, List.setIfInBounds_toArray, List.set_cons_zero, List.set_cons_succ]
          refine wpAnyH_take (i := 3) (v := wv V) rfl (by kernel_rfl) (by kernel_rfl) (by kernel_rfl) (fun _ _ _ h => h) (yieldsIf_load_mid (by rfl) _ _ rfl _ _ rfl (encW V) _ (fun u hu => (FV.out u hu).range) Try.underlying36 rfl (info_wrtl V KV.out.key)) hHeld ?_
          change wpAnyH _ _ _ _ _ _ _ (Act.put _ (some 19) _) _
          simp only [Act.put, List.setIfInBounds_toArray, List.set_cons_zero, List.set_cons_succ]
          refine wpAnyH_take (i := 4) (v := ?_) rfl (by kernel_rfl) (by kernel_rfl) (by kernel_rfl) (fun _ _ _ h => h) (Or.inl ⟨by rfl, ?_⟩) hHeld ?_
          rotate_left
          · intro u hSu
            (go_simp) <;> (with_reducible rfl)
          change wpAnyH _ _ _ _ _ _ _ (Act.put _ (some 20) _) _
          simp only [Act.put, List.setIfInBounds_toArray, List.set_cons_zero, List.set_cons_succ]
          refine wpAnyH_take (i := 5) (v := ?_) rfl (by kernel_rfl) (by kernel_rfl) (by kernel_rfl) (fun _ _ _ h => h) (Or.inl ⟨by rfl, ?_⟩) hHeld ?_
          rotate_left
          · intro u hSu
            (go_simp) <;> (with_reducible rfl)
          change wpAnyH _ _ _ _ _ _ _ (Act.put _ (some 21) _) _
          simp only [Act.put, List.setIfInBounds_toArray, List.set_cons_zero, List.set_cons_succ]
          refine wpAnyH_take (i := 6) (v := ?_) rfl (by kernel_rfl) (by kernel_rfl) (by kernel_rfl) (fun _ _ _ h => h) (Or.inl ⟨by rfl, ?_⟩) hHeld ?_
          rotate_left
          · intro u hSu
            (go_simp) <;> (with_reducible rfl)
          change wpAnyH _ _ _ _ _ _ _ (Act.put _ (some 22) _) _
          simp only [Act.put, List.setIfInBounds_toArray, List.set_cons_zero, List.set_cons_succ]
          refine wpAnyH_take (i := 7) (v := wv V') rfl (by kernel_rfl) (by kernel_rfl) (by kernel_rfl) (fun _ _ _ h => h) (yieldsIf_load_mid (by rfl) _ _ rfl _ _ rfl (encW V') _ (fun u hu => (FW.out u hu).range) Try.underlying36 rfl (info_wrtl V' KV'.out.key)) hHeld ?_
          change wpAnyH _ _ _ _ _ _ _ (Act.put _ (some 23) _) _
          simp only [Act.put, List.setIfInBounds_toArray, List.set_cons_zero, List.set_cons_succ]
          refine wpAnyH_take (i := 8) (v := ?_) rfl (by kernel_rfl) (by kernel_rfl) (by kernel_rfl) (fun _ _ _ h => h) (Or.inl ⟨by rfl, ?_⟩) hHeld ?_
          rotate_left
          · intro u hSu
            (go_simp) <;> (with_reducible rfl)
          change wpAnyH _ _ _ _ _ _ _ (Act.put _ (some 24) _) _
          simp only [Act.put, List.setIfInBounds_toArray, List.set_cons_zero, List.set_cons_succ]
          refine wpAnyH_done (by kernel_rfl) ?_ _
          refine NoPanic.normal ?_
          go_wp2
          go_ret
          exact ⟨by rw [E.out]; rfl, HB.out.1.drew⟩
      · have bl : ¬ (i : Int) < (N : Int) := by omega
        obtain rfl : i = N := by omega
        have E : Hid (R = true) := by rw [HR.out]; exact decide_eq_true (lists_eq HL.out HL'.out HB.out.2)
        go_wp2
        go_ret
        exact ⟨by rw [E.out]; rfl, HB.out.1⟩
  · have bn : (((N : Nat) : Int) != ((N' : Nat) : Int)) = true := by simp; omega
    have hne : decide (l = l') = false := decide_eq_false (fun e => hnn (by rw [← hl, e, hl']))
    rw [hne]
    clear h h' hl hl'
    go_enter Try.func53, Try.ntmps53
    go_wp2
    go_ret
    exact ⟨rfl, Below.refl _ _⟩
set_option maxHeartbeats 4000000 in
set_option maxRecDepth 4000 in
open Classical in
theorem rwrites_any (a a' : Option Addr) (N N' c c' : Nat) (l l' : List Wrt) (w : World) (hl : l.length = N) (hl' : l'.length = N') (hc : N ≤ c) (hc' : N' ≤ c') (hN : N ≤ 1000000) (hN' : N' ≤ 1000000) (h : WrtsAt w a l) (h' : WrtsAt w a' l') :
    Calls Try.prog 13 #[.slice a N c, .slice a' N' c'] w fun e w' => e = .returned (.bool (decide (l = l'))) ∧ Below w.heap.size w w' := by
  have HA : Hid (WrtsAt w a l) := h
  have HA' : Hid (WrtsAt w a' l') := h'
  have HL : Hid (l.length = N) := hl
  have HL' : Hid (l'.length = N') := hl'
  by_cases hnn : N = N'
  · subst hnn
    have bn : (((N : Nat) : Int) != ((N : Nat) : Int)) = false := by simp
    obtain ⟨R, hR⟩ : ∃ R, R = decide (l = l') := ⟨_, rfl⟩
    have HR : Hid (R = decide (l = l')) := hR
    rw [← hR]
    clear h h' hl hl' hR
    go_enter Try.func13, Try.ntmps13
    go_wp2
    go_loopw [5] (fun iv wr => ∃ i : Nat, iv = .int .i64 i ∧ i ≤ N ∧ Hid (Below w.heap.size w wr ∧ ∀ j, j < i → l[j]? = l'[j]?)) (fun iv _ => N - (intOf iv).toNat)
    case atStart => exact ⟨0, rfl, Nat.zero_le _, Below.refl _ _, fun j hj => by omega⟩
    case round =>
      obtain ⟨i, rfl, hi, HB⟩ := hrel
      have hi0 : (0 : Int) ≤ (i : Int) := by omega
      by_cases hlt : i < N
      · have bl : (i : Int) < (N : Int) := by omega
        obtain ⟨V, hV⟩ : ∃ V, l[i]? = some V := ⟨_, List.getElem?_eq_getElem (by rw [HL.out]; exact hlt)⟩
        obtain ⟨V', hV'⟩ : ∃ V, l'[i]? = some V := ⟨_, List.getElem?_eq_getElem (by rw [HL'.out]; exact hlt)⟩
        obtain ⟨g, o, rfl, hva, hvo⟩ := (HA.out.past HB.out.1).wrt hV
        obtain ⟨g', o', rfl, hwa, hwo⟩ := (HA'.out.past HB.out.1).wrt hV'
        have KV : Hid (WrtOk V) := hvo
        have KV' : Hid (WrtOk V') := hwo
        have FV : Hid (∀ u, Below wr.heap.size wr u → WrtAt u g (o + i * 18) V) := fun u hb => hva.past hb
        have FW : Hid (∀ u, Below wr.heap.size wr u → WrtAt u g' (o' + i * 18) V') := fun u hb => hwa.past hb
        by_cases hvv : V = V'
        · subst hvv
          have heq := fun u => eq_wrt u V V KV.out KV.out
          rw [decide_eq_true (rfl : V = V)] at heq
          have HN1 : Hid (∀ j, j < i + 1 → l[j]? = l'[j]?) := same_next HB.out.2 hV hV'
          clear hV hV' hva hvo hwa hwo
          go_wp2
          refine wp_region_noPanic ?_
          refine wp_region_held_drew (S := fun u => Below wr.heap.size wr u) (by kernel_rfl) ?_ (fun hHeld => ?_)
          · exact (Below.refl _ _).drew
          refine wpAnyH_take (i := 0) (v := ?_) rfl (by kernel_rfl) (by kernel_rfl) (by kernel_rfl) (fun _ _ _ h => h) (Or.inl ⟨by rfl, ?_⟩) hHeld ?_
          rotate_left
          · intro u hSu
            (go_simp) <;> (with_reducible rfl)
          change wpAnyH _ _ _ _ _ _ _ (Act.put _ (some 17) _) _
          simp only [Act.put, List.setIfInBounds_toArray, List.set_cons_zero, List.set_cons_succ]
          refine wpAnyH_take (i := 1) (v := ?_) rfl (by kernel_rfl) (by kernel_rfl) (by kernel_rfl) (fun _ _ _ h => h) (Or.inl ⟨by rfl, ?_⟩) hHeld ?_
          rotate_left
          · intro u hSu
            (go_simp) <;> (with_reducible rfl)
          change wpAnyH _ _ _ _ _ _ _ (Act.put _ (some 18) _) _
          simp only [Act.put, List.setIfInBounds_toArray, List.set_cons_zero, List.set_cons_succ]
          refine wpAnyH_take (i := 2) (v := ?_) rfl (by kernel_rfl) (by kernel_rfl) (by kernel_rfl) (fun _ _ _ h => h) (Or.inl ⟨by rfl, ?_⟩) hHeld ?_
          rotate_left
          · intro u hSu
            (go_simp) <;> (with_reducible rfl)
          change wpAnyH _ _ _ _ _ _ _ (Act.put _ (some 19) _) _
          simp only [Act.put, List.setIfInBounds_toArray, List.set_cons_zero, List.set_cons_succ]
          refine wpAnyH_take (i := 3) (v := wv V) rfl (by kernel_rfl) (by kernel_rfl) (by kernel_rfl) (fun _ _ _ h => h) (yieldsIf_load_mid (by rfl) _ _ rfl _ _ rfl (encW V) _ (fun u hu => (FV.out u hu).range) Try.underlying36 rfl (info_wrtl V KV.out.key)) hHeld ?_
          change wpAnyH _ _ _ _ _ _ _ (Act.put _ (some 20) _) _
          simp only [Act.put, List.setIfInBounds_toArray, List.set_cons_zero, List.set_cons_succ]
          refine wpAnyH_take (i := 4) (v := ?_) rfl (by kernel_rfl) (by kernel_rfl) (by kernel_rfl) (fun _ _ _ h => h) (Or.inl ⟨by rfl, ?_⟩) hHeld ?_
          rotate_left
          · intro u hSu
            (go_simp) <;> (with_reducible rfl)
          change wpAnyH _ _ _ _ _ _ _ (Act.put _ (some 21) _) _
          simp only [Act.put, List.setIfInBounds_toArray, List.set_cons_zero, List.set_cons_succ]
          refine wpAnyH_take (i := 5) (v := ?_) rfl (by kernel_rfl) (by kernel_rfl) (by kernel_rfl) (fun _ _ _ h => h) (Or.inl ⟨by rfl, ?_⟩) hHeld ?_
          rotate_left
          · intro u hSu
            (go_simp) <;> (with_reducible rfl)
          change wpAnyH _ _ _ _ _ _ _ (Act.put _ (some 22) _) _
          simp only [Act.put, List.setIfInBounds_toArray, List.set_cons_zero, List.set_cons_succ]
          refine wpAnyH_take (i := 6) (v := ?_) rfl (by kernel_rfl) (by kernel_rfl) (by kernel_rfl) (fun _ _ _ h => h) (Or.inl ⟨by rfl, ?_⟩) hHeld ?_
          rotate_left
          · intro u hSu
            (go_simp) <;> (with_reducible rfl)
          change wpAnyH _ _ _ _ _ _ _ (Act.put _ (some 23) _) _
          simp only [Act.put, List.setIfInBounds_toArray, List.set_cons_zero, List.set_cons_succ]
          refine wpAnyH_take (i := 7) (v := wv V) rfl (by kernel_rfl) (by kernel_rfl) (by kernel_rfl) (fun _ _ _ h => h) (yieldsIf_load_mid (by rfl) _ _ rfl _ _ rfl (encW V) _ (fun u hu => (FW.out u hu).range) Try.underlying36 rfl (info_wrtl V KV.out.key)) hHeld ?_
          change wpAnyH _ _ _ _ _ _ _ (Act.put _ (some 24) _) _
          simp only [Act.put, List.setIfInBounds_toArray, List.set_cons_zero, List.set_cons_succ]
          refine wpAnyH_take (i := 8) (v := ?_) rfl (by kernel_rfl) (by kernel_rfl) (by kernel_rfl) (fun _ _ _ h => h) (Or.inl ⟨by rfl, ?_⟩) hHeld ?_
          rotate_left
          · intro u hSu
            (go_simp) <;> (with_reducible rfl)
          change wpAnyH _ _ _ _ _ _ _ (Act.put _ (some 25) _) _
          simp only [Act.put, List.setIfInBounds_toArray, List.set_cons_zero, List.set_cons_succ]
          refine wpAnyH_done (by kernel_rfl) ?_ _
          refine NoPanic.normal ?_
          go_wp2
          go_roundw
          case rel => exact ⟨i + 1, by go_num, by omega, HB.out.1.drew, HN1.out⟩
          case measure => simp [intOf]; omega
        · have heq := fun u => eq_wrt u V V' KV.out KV'.out
          rw [decide_eq_false hvv] at heq
          have E : Hid (R = false) := by rw [HR.out]; exact decide_eq_false (lists_ne hV hV' hvv)
          clear hV hV' hva hvo hwa hwo hvv
          go_wp2
          refine wp_region_noPanic ?_
          refine wp_region_held_drew (S := fun u => Below wr.heap.size wr u) (by kernel_rfl) ?_ (fun hHeld => ?_)
          · exact (Below.refl _ _).drew
          refine wpAnyH_take (i := 0) (v := ?_) rfl (by kernel_rfl) (by kernel_rfl) (by kernel_rfl) (fun _ _ _ h => h) (Or.inl ⟨by rfl, ?_⟩) hHeld ?_
          rotate_left
          · intro u hSu
            (go_simp) <;> (with_reducible rfl)
          change wpAnyH _ _ _ _ _ _ _ (Act.put _ (some 17) _) _
          simp only [Act.put, List.setIfInBounds_toArray, List.set_cons_zero, List.set_cons_succ]
          refine wpAnyH_take (i := 1) (v := ?_) rfl (by kernel_rfl) (by kernel_rfl) (by kernel_rfl) (fun _ _ _ h => h) (Or.inl ⟨by rfl, ?_⟩) hHeld ?_
          rotate_left
          · intro u hSu
            (go_simp) <;> (with_reducible rfl)
          change wpAnyH _ _ _ _ _ _ _ (Act.put _ (some 18) _) _
          simp only [Act.put, List.setIfInBounds_toArray, List.set_cons_zero, List.set_cons_succ]
          refine wpAnyH_take (i := 2) (v := ?_) rfl (by kernel_rfl) (by kernel_rfl) (by kernel_rfl) (fun _ _ _ h => h) (Or.inl ⟨by rfl, ?_⟩) hHeld ?_
          rotate_left
          · intro u hSu
            (go_simp) <;> (with_reducible rfl)
          change wpAnyH _ _ _ _ _ _ _ (Act.put _ (some 19) _) _
          simp only [Act.put, List.setIfInBounds_toArray, List.set_cons_zero, List.set_cons_succ]
          refine wpAnyH_take (i := 3) (v := wv V) rfl (by kernel_rfl) (by kernel_rfl) (by kernel_rfl) (fun _ _ _ h => h) (yieldsIf_load_mid (by rfl) _ _ rfl _ _ rfl (encW V) _ (fun u hu => (FV.out u hu).range) Try.underlying36 rfl (info_wrtl V KV.out.key)) hHeld ?_
          change wpAnyH _ _ _ _ _ _ _ (Act.put _ (some 20) _) _
          simp only [Act.put, List.setIfInBounds_toArray, List.set_cons_zero, List.set_cons_succ]
          refine wpAnyH_take (i := 4) (v := ?_) rfl (by kernel_rfl) (by kernel_rfl) (by kernel_rfl) (fun _ _ _ h => h) (Or.inl ⟨by rfl, ?_⟩) hHeld ?_
          rotate_left
          · intro u hSu
            (go_simp) <;> (with_reducible rfl)
          change wpAnyH _ _ _ _ _ _ _ (Act.put _ (some 21) _) _
          simp only [Act.put, List.setIfInBounds_toArray, List.set_cons_zero, List.set_cons_succ]
          refine wpAnyH_take (i := 5) (v := ?_) rfl (by kernel_rfl) (by kernel_rfl) (by kernel_rfl) (fun _ _ _ h => h) (Or.inl ⟨by rfl, ?_⟩) hHeld ?_
          rotate_left
          · intro u hSu
            (go_simp) <;> (with_reducible rfl)
          change wpAnyH _ _ _ _ _ _ _ (Act.put _ (some 22) _) _
          simp only [Act.put, List.setIfInBounds_toArray, List.set_cons_zero, List.set_cons_succ]
          refine wpAnyH_take (i := 6) (v := ?_) rfl (by kernel_rfl) (by kernel_rfl) (by kernel_rfl) (fun _ _ _ h => h) (Or.inl ⟨by rfl, ?_⟩) hHeld ?_
          rotate_left
          · intro u hSu
            (go_simp) <;> (with_reducible rfl)
          change wpAnyH _ _ _ _ _ _ _ (Act.put _ (some 23) _) _
          simp only [Act.put, List.setIfInBounds_toArray, List.set_cons_zero, List.set_cons_succ]
          refine wpAnyH_take (i := 7) (v := wv V') rfl (by kernel_rfl) (by kernel_rfl) (by kernel_rfl) (fun _ _ _ h => h) (yieldsIf_load_mid (by rfl) _ _ rfl _ _ rfl (encW V') _ (fun u hu => (FW.out u hu).range) Try.underlying36 rfl (info_wrtl V' KV'.out.key)) hHeld ?_
          change wpAnyH _ _ _ _ _ _ _ (Act.put _ (some 24) _) _
          simp only [Act.put, List.setIfInBounds_toArray, List.set_cons_zero, List.set_cons_succ]
          refine wpAnyH_take (i := 8) (v := ?_) rfl (by kernel_rfl) (by kernel_rfl) (by kernel_rfl) (fun _ _ _ h => h) (Or.inl ⟨by rfl, ?_⟩) hHeld ?_
          rotate_left
          · intro u hSu
            (go_simp) <;> (with_reducible rfl)
          change wpAnyH _ _ _ _ _ _ _ (Act.put _ (some 25) _) _
          simp only [Act.put, List.setIfInBounds_toArray, List.set_cons_zero, List.set_cons_succ]
          refine wpAnyH_done (by kernel_rfl) ?_ _
          refine NoPanic.normal ?_
          go_wp2
          go_ret
          exact ⟨by rw [E.out]; rfl, HB.out.1.drew⟩
      · have bl : ¬ (i : Int) < (N : Int) := by omega
        obtain rfl : i = N := by omega
        have E : Hid (R = true) := by rw [HR.out]; exact decide_eq_true (lists_eq HL.out HL'.out HB.out.2)
        go_wp2
        go_ret
        exact ⟨by rw [E.out]; rfl, HB.out.1⟩
  · have bn : (((N : Nat) : Int) != ((N' : Nat) : Int)) = true := by simp; omega
    have hne : decide (l = l') = false := decide_eq_false (fun e => hnn (by rw [← hl, e, hl']))
    rw [hne]
    clear h h' hl hl'
    go_enter Try.func13, Try.ntmps13
    go_wp2
    go_ret
    exact ⟨rfl, Below.refl _ _⟩
theorem IntsAt.past {w w' : World} {a : Option Addr} {l : List Int} (h : IntsAt w a l) (hb : Below w.heap.size w w') : IntsAt w' a l :=
  ⟨h.cells.imp id (fun ⟨b, o, e, hc⟩ => ⟨b, o, e, fun j hj => by rw [hb.cell (p := ⟨b, o + j, none⟩) (lt_of_cell (hc j hj))]; exact hc j hj⟩), h.bounds⟩
theorem IntsAt.at {w : World} {a : Option Addr} {l : List Int} (h : IntsAt w a l) {i : Nat} (hi : i < l.length) : ∃ b o x, a = some ⟨b, o, none⟩ ∧ w.cell? ⟨b, o + i, none⟩ = some (.int .i64 x) ∧ l[i]? = some x := by
  rcases h.cells with rfl | ⟨b, o, e, hc⟩
  · simp at hi
  · exact ⟨b, o, l.getD i 0, e, hc i hi, by simp [List.getD, hi]⟩
set_option maxHeartbeats 4000000 in
set_option maxRecDepth 4000 in
open Classical in
theorem iequal_any (a a' : Option Addr) (N N' c c' : Nat) (l l' : List Int) (w : World) (hl : l.length = N) (hl' : l'.length = N') (hN : N ≤ 1000000) (hN' : N' ≤ 1000000) (h : IntsAt w a l) (h' : IntsAt w a' l') :
    Calls Try.prog 54 #[.slice a N c, .slice a' N' c'] w fun e w' => e = .returned (.bool (decide (l = l'))) ∧ Below w.heap.size w w' := by
  have HA : Hid (IntsAt w a l) := h
  have HA' : Hid (IntsAt w a' l') := h'
  have HL : Hid (l.length = N) := hl
  have HL' : Hid (l'.length = N') := hl'
  by_cases hnn : N = N'
  · subst hnn
    have bn : (((N : Nat) : Int) != ((N : Nat) : Int)) = false := by simp
    obtain ⟨R, hR⟩ : ∃ R, R = decide (l = l') := ⟨_, rfl⟩
    have HR : Hid (R = decide (l = l')) := hR
    rw [← hR]
    clear h h' hl hl' hR
    go_enter Try.func54, Try.ntmps54
    go_wp2
    go_loopw [13] (fun iv wr => ∃ i : Nat, iv = .int .i64 i ∧ i ≤ N ∧ Hid (Below w.heap.size w wr ∧ ∀ j, j < i → l[j]? = l'[j]?)) (fun iv _ => N - (intOf iv).toNat)
    case atStart => exact ⟨0, rfl, Nat.zero_le _, Below.refl _ _, fun j hj => by omega⟩
    case round =>
      obtain ⟨i, rfl, hi, HB⟩ := hrel
      have hi0 : (0 : Int) ≤ (i : Int) := by omega
      by_cases hlt : i < N
      · have bl : (i : Int) < (N : Int) := by omega
        obtain ⟨g, o, x, rfl, hx, hvx⟩ := (HA.out.past HB.out.1).at (by rw [HL.out]; exact hlt)
        obtain ⟨g', o', x', rfl, hx', hvx'⟩ := (HA'.out.past HB.out.1).at (by rw [HL'.out]; exact hlt)
        by_cases hvv : x = x'
        · subst hvv
          have HN1 : Hid (∀ j, j < i + 1 → l[j]? = l'[j]?) := same_next HB.out.2 hvx hvx'
          clear hvx hvx'
          go_wp2
          go_quiet (fail)
          go_wp2
          go_roundw
          case rel => exact ⟨i + 1, by go_num, by omega, below_dN HB.out.1 _, HN1.out⟩
          case measure => simp [intOf]; omega
        · have E : Hid (R = false) := by rw [HR.out]; exact decide_eq_false (lists_ne hvx hvx' hvv)
          clear hvx hvx'
          have hb : (x != x') = true := bne_iff_ne.2 hvv
          go_wp2
          go_quiet (fail)
          go_wp2
          go_ret
          exact ⟨by rw [E.out]; rfl, below_dN HB.out.1 _⟩
      · have bl : ¬ (i : Int) < (N : Int) := by omega
        obtain rfl : i = N := by omega
        have E : Hid (R = true) := by rw [HR.out]; exact decide_eq_true (lists_eq HL.out HL'.out HB.out.2)
        go_wp2
        go_ret
        exact ⟨by rw [E.out]; rfl, HB.out.1⟩
  · have bn : (((N : Nat) : Int) != ((N' : Nat) : Int)) = true := by simp; omega
    have hne : decide (l = l') = false := decide_eq_false (fun e => hnn (by rw [← hl, e, hl']))
    rw [hne]
    clear h h' hl hl'
    go_enter Try.func54, Try.ntmps54
    go_wp2
    go_ret
    exact ⟨rfl, Below.refl _ _⟩
end Go.Proofs.Ytmiafadmcpmjgaa

namespace Go.Proofs.Ytmiafadmcpmjgaa
open Go.RowKit
set_option linter.unusedVariables false

/-- A record in memory: where its lists lie. -/
structure RcM where
  r : Rcd
  a : Option Addr
  c : Nat
  pa : Option Addr
  pc : Nat
def encR (x : RcM) : List Value := [.int .i64 x.r.kd, .int .i64 x.r.id, .int .i64 x.r.s, .int .u8 x.r.m, .int .i64 x.r.t, .int .u8 x.r.n, .slice x.a x.r.l.length x.c, .bool x.r.y, .slice x.pa x.r.ps.length x.pc]
abbrev rcv (x : RcM) : Value := .agg (encR x).toArray
theorem encR_one (x : RcM) : ∀ u ∈ encR x, u.oneCell' = true := by
  intro u hu
  simp [encR] at hu
  rcases hu with rfl | rfl | rfl | rfl | rfl | rfl | rfl | rfl | rfl <;> rfl
/-- Its lists, and what its numbers are. -/
structure RcW (w : World) (x : RcM) : Prop where
  wr : WrtsAt w x.a x.r.l
  room : x.r.l.length ≤ x.c
  few : x.r.l.length ≤ 1000
  ps : IntsAt w x.pa x.r.ps
  proom : x.r.ps.length ≤ x.pc
  pfew : x.r.ps.length ≤ 1000
  kd : -9223372036854775808 ≤ x.r.kd ∧ x.r.kd ≤ 9223372036854775807
  ok : RcdOk x.r
theorem RcW.past {w w' : World} {x : RcM} (h : RcW w x) (hb : Below w.heap.size w w') : RcW w' x := ⟨h.wr.past hb, h.room, h.few, h.ps.past hb, h.proom, h.pfew, h.kd, h.ok⟩
/-- A record's cells in a box. -/
structure RBox (u : World) (b : Nat) (kd id s m t n : Int) (a : Option Addr) (N c : Nat) (y : Bool) (pa : Option Addr) (M pc : Nat) : Prop where
  c0 : u.cell? ⟨b, 0, none⟩ = some (.int .i64 kd)
  c1 : u.cell? ⟨b, 1, none⟩ = some (.int .i64 id)
  c2 : u.cell? ⟨b, 2, none⟩ = some (.int .i64 s)
  c3 : u.cell? ⟨b, 3, none⟩ = some (.int .u8 m)
  c4 : u.cell? ⟨b, 4, none⟩ = some (.int .i64 t)
  c5 : u.cell? ⟨b, 5, none⟩ = some (.int .u8 n)
  c6 : u.cell? ⟨b, 6, none⟩ = some (.slice a N c)
  c7 : u.cell? ⟨b, 7, none⟩ = some (.bool y)
  c8 : u.cell? ⟨b, 8, none⟩ = some (.slice pa M pc)
theorem RBox.made (w : World) (T : TypeId) (kd id s m t n : Int) (a : Option Addr) (N c : Nat) (y : Bool) (pa : Option Addr) (M pc : Nat) : RBox (w.alloc (.cells #[.int .i64 kd, .int .i64 id, .int .i64 s, .int .u8 m, .int .i64 t, .int .u8 n, .slice a N c, .bool y, .slice pa M pc] T)) w.heap.size kd id s m t n a N c y pa M pc := by
  refine ⟨?_, ?_, ?_, ?_, ?_, ?_, ?_, ?_, ?_⟩ <;> (rw [World.cell?_alloc_new]; rfl)
theorem RBox.lt {u : World} {b : Nat} {kd id s m t n : Int} {a : Option Addr} {N c : Nat} {y : Bool} {pa : Option Addr} {M pc : Nat} (h : RBox u b kd id s m t n a N c y pa M pc) : b < u.heap.size := cell_lt h.c0
theorem RBox.kept {u u' : World} {b : Nat} {kd id s m t n : Int} {a : Option Addr} {N c : Nat} {y : Bool} {pa : Option Addr} {M pc : Nat} (h : RBox u b kd id s m t n a N c y pa M pc) (hb : u'.heap[b]? = u.heap[b]?) : RBox u' b kd id s m t n a N c y pa M pc :=
  ⟨(cell_of_block hb 0).1.trans h.c0, (cell_of_block hb 1).1.trans h.c1, (cell_of_block hb 2).1.trans h.c2, (cell_of_block hb 3).1.trans h.c3, (cell_of_block hb 4).1.trans h.c4, (cell_of_block hb 5).1.trans h.c5, (cell_of_block hb 6).1.trans h.c6, (cell_of_block hb 7).1.trans h.c7, (cell_of_block hb 8).1.trans h.c8⟩
theorem RBox.past {u u' : World} {b : Nat} {kd id s m t n : Int} {a : Option Addr} {N c : Nat} {y : Bool} {pa : Option Addr} {M pc : Nat} (h : RBox u b kd id s m t n a N c y pa M pc) (hb : Below u.heap.size u u') : RBox u' b kd id s m t n a N c y pa M pc := h.kept (hb.block b h.lt)
theorem rcd_eq {A B : Rcd} : A = B ↔ A.kd = B.kd ∧ A.id = B.id ∧ A.s = B.s ∧ A.m = B.m ∧ A.t = B.t ∧ A.n = B.n ∧ A.y = B.y ∧ A.l = B.l ∧ A.ps = B.ps := by
  constructor
  · rintro rfl; simp
  · rintro ⟨h1, h2, h3, h4, h5, h6, h7, h8, h9⟩
    cases A; cases B; simp_all
open Classical in
theorem rcd_no {A B : Rcd} (h : ¬ (A.kd = B.kd ∧ A.id = B.id ∧ A.s = B.s ∧ A.m = B.m ∧ A.t = B.t ∧ A.n = B.n ∧ A.y = B.y ∧ A.l = B.l ∧ A.ps = B.ps)) : decide (A = B) = false := decide_eq_false (fun e => h (rcd_eq.1 e))
end Go.Proofs.Ytmiafadmcpmjgaa

