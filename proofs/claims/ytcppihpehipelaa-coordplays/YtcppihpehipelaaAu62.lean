/-
  What the document reads next: writes: what its rounds hold.
  What the document reads next: writes.
  The landed rec: getWrites.
  The document's own look at a list of nodes: rising, from 0 to 7, at least one.
  The landed rec: getParts, goodParts.
-/
import Derived.Test.YtcppihpehipelaaAu37
import Derived.Test.YtcppihpehipelaaAu63
import Derived.Test.YtcppihpehipelaaRefSto2
import Derived.Test.YtcppihpehipelaaAu53
import Derived.Test.YtcppihpehipelaaAu56
import Derived.Test.YtcppihpehipelaaAu44
import Derived.Test.YtcppihpehipelaaAu52
import Derived.Deep.QuietTactic
import Derived.BigQuiet
namespace Go.Proofs.Ytcppihpehipelaa
open Go.RowKit
set_option linter.unusedVariables false

theorem owns_stay {u u' : World} {base e size n : Nat} {v : Value} {xs : List Value} (h : u.ownsRow base e size v n xs) (hk : ∀ q, base ≤ q → q < u.heap.size → u'.heap[q]? = u.heap[q]?) : u'.ownsRow base e size v n xs := by
  refine ⟨h.1, h.2.imp id ?_⟩
  rintro ⟨g, cap, cur, rfl, h1, h2, h3⟩
  refine ⟨g, cap, cur, rfl, h1, (hk g h1 ?_).trans h2, h3⟩
  exact (h.lt g rfl).2
theorem WrtMine.chg {w w' : World} {b o : Nat} {W : Wrt} {X : Foot} (h : WrtMine w b o W) (hc : Chg w w' X) (hX : ¬ X b) : WrtMine w' b o W :=
  have hb := hc.block b (h.at_.lt h.key) hX
  ⟨⟨lies_of fun j u hj => (cell_of_block hb _).1.trans (h.at_.lies.at j u hj)⟩, fun i hi => (cell_of_block hb _).2.trans (h.free i hi), h.key⟩
/-- What the rounds hold. -/
structure WrsL (w wr : World) (g : Nat) (a : Option Addr) (cap : Nat) (zs : List Int) (o0 : Option (List Int)) (N : Nat) (v : Value) (m : Nat) : Prop where
  ex : ∃ (k : Nat) (b : Bool) (done : List Wrt), Rd wr g a cap zs k b ∧ Chg w wr (fun j => j = g) ∧ wr.ownsRow w.heap.size 86 18 v m (done.flatMap encW) ∧ (∀ W ∈ done, WrtOk W) ∧ done.length = m ∧ ∀ o2 L, Rds (manyP writeP (N - m)) (stR zs k b) o2 L → Rds (manyP writeP N) o0 o2 (done ++ L)
theorem many_seq {α : Type} {p : Pr α} {n : Nat} {o o1 o2 : Option (List Int)} {x : α} {L : List α} (h1 : Rds p o o1 x) (h2 : Rds (manyP p n) o1 o2 L) : Rds (manyP p (n + 1)) o o2 (x :: L) :=
  h1.seq (h2.seq (.ret _ _))
theorem WrsL.start {w wr : World} {g : Nat} {a : Option Addr} {cap : Nat} {zs : List Int} {k : Nat} {b : Bool} (N : Nat) (h : Rd wr g a cap zs k b) (hc : Chg w wr (fun j => j = g)) : WrsL w wr g a cap zs (stR zs k b) N (.slice none 0 0) 0 :=
  ⟨k, b, [], h, hc, ⟨rfl, .inl ⟨rfl, rfl⟩⟩, fun W hW => by simp at hW, rfl, fun o2 L h => h⟩
/-- What a round lays. -/
theorem WrsL.next {w w6 : World} {g : Nat} {a : Option Addr} {cap : Nat} {zs : List Int} {o0 : Option (List Int)} {N m k k' : Nat} {b b' : Bool} {done : List Wrt} {W : Wrt} {ax : Option Addr} {cx : Nat}
    (hf : ∀ o2 L, Rds (manyP writeP (N - m)) (stR zs k b) o2 L → Rds (manyP writeP N) o0 o2 (done ++ L)) (hm : m < N) (hd : done.length = m) (hok : ∀ X ∈ done, WrtOk X) (hW : WrtOk W)
    (R : Rd w6 g a cap zs k' b') (C : Chg w w6 (fun j => j = g)) (hown : w6.ownsRow w.heap.size 86 18 (.slice ax (m + 1) cx) (m + 1) (done.flatMap encW ++ encW W)) (D : Rds writeP (stR zs k b) (stR zs k' b') W) : WrsL w w6 g a cap zs o0 N (.slice ax (m + 1) cx) (m + 1) := by
  refine ⟨k', b', done ++ [W], R, C, by simpa using hown, fun X hX => ?_, by simp [hd], fun o2 L h => ?_⟩
  · rcases List.mem_append.1 hX with h | h
    · exact hok X h
    · simp at h; rw [h]; exact hW
  · have e : N - m = (N - (m + 1)) + 1 := by omega
    rw [List.append_assoc]
    refine hf o2 _ ?_
    rw [e]
    exact many_seq D h
end Go.Proofs.Ytcppihpehipelaa

namespace Go.Proofs.Ytcppihpehipelaa
open Go.RowKit
set_option linter.unusedVariables false

end Go.Proofs.Ytcppihpehipelaa

namespace Go.Proofs.Ytcppihpehipelaa
open Go.RowKit
set_option linter.unusedVariables false

/-- A write in a box of the round's, and the reader beside it. -/
structure RB (wr u : World) (g q : Nat) (zs : List Int) (b : Bool) (W : Wrt) : Prop where
  lr : LR u g zs b
  chg : Chg wr u (fun j => j = g)
  mine : WrtMine u q 0 W
  hq : wr.heap.size ≤ q
  hg : g < wr.heap.size
theorem RB.turn {wr u u' : World} {g q : Nat} {zs zs' : List Int} {b b' : Bool} {W : Wrt} (h : RB wr u g q zs b W) (hc : Chg u u' (fun j => j = g)) (hl : LR u' g zs' b') : RB wr u' g q zs' b' W :=
  ⟨hl, h.chg.trans hc (fun _ _ x => x), h.mine.chg hc (by have := h.hq; have := h.hg; omega), h.hq, h.hg⟩
theorem RB.set {wr u : World} {g q : Nat} {zs : List Int} {b : Bool} {W W' : Wrt} (h : RB wr u g q zs b W) (i : Nat) (v : Value) (hm : WrtMine (u.setCell ⟨q, i, none⟩ v) q 0 W') : RB wr (u.setCell ⟨q, i, none⟩ v) g q zs b W' := by
  have c : Chg u (u.setCell ⟨q, i, none⟩ v) (fun j => j = q) := Chg.set u ⟨q, i, none⟩ v rfl
  have := h.hq
  have := h.hg
  exact ⟨h.lr.above c (fun j e => by omega), h.chg.trans c (fun j hj e => by omega), hm, h.hq, h.hg⟩
/-- What the rounds hold. -/
structure GwL (w wr : World) (g : Nat) (o0 : Option (List Int)) (N : Nat) (v : Value) (m : Nat) : Prop where
  ex : ∃ (zs : List Int) (b : Bool) (done : List Wrt), LR wr g zs b ∧ Chg w wr (fun j => j = g) ∧ wr.ownsRow w.heap.size 86 18 v m (done.flatMap encW) ∧ (∀ W ∈ done, WrtOk W) ∧ (∀ W ∈ done, W.v.length ≤ 200) ∧ done.length = m ∧ ∀ o2 L, Rds (manyP wrP (N - m)) (stL zs b) o2 L → Rds (manyP wrP N) o0 o2 (done ++ L)
theorem GwL.next {w wr u w6 : World} {g q : Nat} {zs zs' : List Int} {b b' : Bool} {o0 : Option (List Int)} {N m : Nat} {ax ax6 : Option Addr} {cx cx6 : Nat} {done : List Wrt} {W : Wrt} (hg : g < w.heap.size)
    (hx : LR wr g zs b ∧ Chg w wr (fun j => j = g) ∧ wr.ownsRow w.heap.size 86 18 (.slice ax m cx) m (done.flatMap encW) ∧ (∀ W ∈ done, WrtOk W) ∧ (∀ W ∈ done, W.v.length ≤ 200) ∧ done.length = m ∧ ∀ o2 L, Rds (manyP wrP (N - m)) (stL zs b) o2 L → Rds (manyP wrP N) o0 o2 (done ++ L)) (hlt : m < N)
    (h : RB wr u g q zs' b' W) (hW : WrtOk W) (hv : W.v.length ≤ 200) (D : Rds wrP (stL zs b) (stL zs' b') W) (hown : w6.ownsRow w.heap.size 86 18 (.slice ax6 (m + 1) cx6) (m + 1) (done.flatMap encW ++ encW W)) (C6 : Chg (u.alloc (.cells (encW W).toArray 86)) w6 (fun j => w.heap.size ≤ j)) : GwL w w6 g o0 N (.slice ax6 (m + 1) cx6) (m + 1) := by
  obtain ⟨_, C1, _, ok1, vl1, len1, f1⟩ := hx
  have ba : Below u.heap.size u (u.alloc (.cells (encW W).toArray 86)) := (Below.refl _ _).alloc (Nat.le_refl _) _
  refine ⟨zs', b', done ++ [W], (h.lr.past ba).above C6 (fun j e => by omega), ((C1.trans h.chg (fun _ _ x => x)).trans (Chg.of_below ba (fun j => j = g)) (fun _ _ x => x)).trans C6 (fun j hj e => by omega), by simpa using hown, fun X hX => ?_, fun X hX => ?_, by simp [len1], fun o2 L h2 => ?_⟩
  · rcases List.mem_append.1 hX with e | e
    · exact ok1 X e
    · simp at e; rw [e]; exact hW
  · rcases List.mem_append.1 hX with e | e
    · exact vl1 X e
    · simp at e; rw [e]; exact hv
  · have e : N - m = (N - (m + 1)) + 1 := by omega
    rw [List.append_assoc]
    refine f1 o2 _ ?_
    rw [e]
    exact many_seq D h2
end Go.Proofs.Ytcppihpehipelaa

namespace Go.Proofs.Ytcppihpehipelaa
open Go.RowKit
set_option linter.unusedVariables false

/-- Numbers that lie one behind the other. -/
structure IntsAt (w : World) (a : Option Addr) (l : List Int) : Prop where
  cells : l = [] ∨ ∃ b off, a = some ⟨b, off, none⟩ ∧ ∀ j, j < l.length → w.cell? ⟨b, off + j, none⟩ = some (.int .i64 (l.getD j 0))
  bounds : ∀ z ∈ l, -9223372036854775808 ≤ z ∧ z ≤ 9223372036854775807
theorem drew_on {w u : World} (h : ∃ q, u = w.drewN q) (n : Nat) : ∃ q, u.drewN n = w.drewN q := by
  obtain ⟨q, rfl⟩ := h
  exact ⟨_, World.drewN_drewN w q n⟩
def prevP (l : List Int) (i : Nat) : Int := if i = 0 then -1 else l.getD (i - 1) 0
theorem up_step {l : List Int} {i : Nat} (hi : i < l.length) : upP (prevP l i) (l.drop i) = (decide (prevP l i < l.getD i 0 ∧ 0 ≤ l.getD i 0 ∧ l.getD i 0 ≤ 7) && upP (prevP l (i + 1)) (l.drop (i + 1))) := by
  have e : l.drop i = l.getD i 0 :: l.drop (i + 1) := by rw [List.drop_eq_getElem_cons hi]; simp [List.getD, hi]
  rw [e]
  show (decide _ && upP (l.getD i 0) _) = _
  have e2 : prevP l (i + 1) = l.getD i 0 := by unfold prevP; simp
  rw [e2]
set_option maxHeartbeats 1000000 in
theorem rparts14_any (a : Option Addr) (N cap : Nat) (l : List Int) (w : World) (hl : l.length = N) (hN : N ≤ 1000000) (h : IntsAt w a l) :
    Calls Try.prog 50 #[.slice a N cap] w fun e w' => e = .returned (.bool (partsB l)) ∧ ∃ q, w' = w.drewN q := by
  by_cases h0 : N = 0
  · subst h0
    have e : l = [] := List.eq_nil_of_length_eq_zero hl
    subst e
    have E : Hid (partsB [] = false) := rfl
    clear hl h hN
    go_enter Try.func50, Try.ntmps50
    go_wp2
    refine wp_loop_rounds 1 ?_
    rw [rounds_succ]
    go_wp2
    go_returns
    exact ⟨rfl, 0, rfl⟩
  · obtain ⟨b, off, rfl, hc⟩ : ∃ b off, a = some ⟨b, off, none⟩ ∧ ∀ j, j < l.length → w.cell? ⟨b, off + j, none⟩ = some (.int .i64 (l.getD j 0)) := by
      rcases h.cells with e | e
      · rw [e] at hl; simp at hl; exact absurd hl.symm h0
      · exact e
    have HC : Hid (∀ u, (∃ q, u = w.drewN q) → ∀ j, j < N → u.cell? ⟨b, off + j, none⟩ = some (.int .i64 (l.getD j 0))) := by
      rintro u ⟨q, rfl⟩ j hj
      exact hc j (by omega)
    have HP : Hid (partsB l = upP (prevP l 0) (l.drop 0)) := by
      show (upP (-1) l && decide (0 < l.length)) = upP (-1) l
      rw [decide_eq_true (by omega), Bool.and_true]
    have HU : Hid (∀ i, i < N → upP (prevP l i) (l.drop i) = (decide (prevP l i < l.getD i 0 ∧ 0 ≤ l.getD i 0 ∧ l.getD i 0 ≤ 7) && upP (prevP l (i + 1)) (l.drop (i + 1)))) := fun i hi => up_step (by omega)
    have HZ : Hid (∀ i, ¬ i < N → upP (prevP l i) (l.drop i) = true) := fun i hi => by rw [List.drop_eq_nil_of_le (by omega)]; rfl
    have hpos : (0 : Int) < (N : Int) := by omega
    clear h hc hl h0
    go_enter Try.func50, Try.ntmps50
    go_wp2
    go_loopw [3] (fun i wr => ∃ (n : Nat), n ≤ N ∧ i = .int .i64 n ∧ Hid (∃ q, wr = w.drewN q) ∧ Hid (partsB l = upP (prevP l n) (l.drop n))) (fun i _ => N - (intOf i).toNat)
    case atStart => exact ⟨0, Nat.zero_le _, rfl, ⟨0, rfl⟩, HP⟩
    case round =>
      obtain ⟨n, hn, rfl, HW, HI⟩ := hrel
      have hn0 : (0 : Int) ≤ (n : Int) := by omega
      by_cases hlt : n < N
      · have hcn : wr.cell? ⟨b, off + n, none⟩ = some (.int .i64 (l.getD n 0)) := HC.out wr HW.out n hlt
        have HS : Hid (partsB l = (decide (prevP l n < l.getD n 0 ∧ 0 ≤ l.getD n 0 ∧ l.getD n 0 ≤ 7) && upP (prevP l (n + 1)) (l.drop (n + 1)))) := HI.out.trans (HU.out n hlt)
        obtain ⟨X, hX⟩ : ∃ X, X = l.getD n 0 := ⟨_, rfl⟩
        rw [← hX] at hcn HS
        have hltI : (n : Int) < (N : Int) := by omega
        clear HI hX
        by_cases c1 : X < 0
        · have E : Hid (partsB l = false) := by rw [HS.out, decide_eq_false (by omega)]; rfl
          clear HS
          go_wp2
          go_quiet (fail)
          go_wp2
          go_returns
          exact ⟨by rw [E.out]; rfl, drew_on HW.out _⟩
        · have c1' : decide (X < 0) = false := decide_eq_false c1
          by_cases c2 : 7 < X
          · have E : Hid (partsB l = false) := by rw [HS.out, decide_eq_false (by omega)]; rfl
            clear HS
            go_wp2
            go_quiet (fail)
            go_wp2
            go_returns
            exact ⟨by rw [E.out]; rfl, drew_on HW.out _⟩
          · have c2' : decide (7 < X) = false := decide_eq_false c2
            by_cases c3 : n = 0
            · subst c3
              have hd : prevP l 0 < X ∧ 0 ≤ X ∧ X ≤ 7 := by unfold prevP; rw [if_pos rfl]; omega
              have E : Hid (partsB l = upP (prevP l (0 + 1)) (l.drop (0 + 1))) := by
                rw [HS.out, decide_eq_true hd, Bool.true_and]
                exact rfl
              clear hd
              have hcn0 : wr.cell? ⟨b, off, none⟩ = some (.int .i64 X) := hcn
              clear HS
              go_wp2
              go_quiet (fail)
              go_wp2
              go_round
              case rel => exact ⟨0 + 1, by omega, by go_num, drew_on HW.out _, E⟩
              case measure => simp [intOf]; omega
            · obtain ⟨p, hp⟩ : ∃ p, p = l.getD (n - 1) 0 := ⟨_, rfl⟩
              obtain ⟨m, hm⟩ : ∃ m, m = n - 1 := ⟨_, rfl⟩
              have hcp : wr.cell? ⟨b, off + m, none⟩ = some (.int .i64 p) := by rw [hp, hm]; exact HC.out wr HW.out (n - 1) (by omega)
              have hk : (n : Int) - 1 = (m : Int) := by omega
              have hn2 : 0 < n := by omega
              have hn1 : decide (0 < n) = true := decide_eq_true hn2
              have hk0 : (0 : Int) ≤ (m : Int) := by omega
              have hk1 : (m : Int) < (N : Int) := by omega
              have hnp : (0 : Int) < (n : Int) := by omega
              have HV : Hid (prevP l n = p) := by unfold prevP; rw [if_neg c3]; exact hp.symm
              rw [HV.out] at HS
              clear hp hm
              by_cases c4 : X ≤ p
              · have E : Hid (partsB l = false) := by rw [HS.out, decide_eq_false (by omega)]; rfl
                clear HS
                go_wp2
                go_quiet (fail)
                go_wp2
                go_returns
                exact ⟨by rw [E.out]; rfl, drew_on HW.out _⟩
              · have E : Hid (partsB l = upP (prevP l (n + 1)) (l.drop (n + 1))) := by rw [HS.out, decide_eq_true (by omega), Bool.true_and]; exact rfl
                clear HS
                go_wp2
                go_quiet (fail)
                go_wp2
                go_round
                case rel => exact ⟨n + 1, by omega, by go_num, drew_on HW.out _, E⟩
                case measure => simp [intOf]; omega
      · have E : Hid (partsB l = true) := HI.out.trans (HZ.out n hlt)
        have hnN : n = N := by omega
        subst hnN
        clear HI
        go_wp2
        go_returns
        exact ⟨by rw [E.out]; exact congrArg (fun x => Ending.returned (Value.bool x)) (decide_eq_true (by omega)), HW.out⟩
end Go.Proofs.Ytcppihpehipelaa

namespace Go.Proofs.Ytcppihpehipelaa
open Go.RowKit
set_option linter.unusedVariables false

def ivs (l : List Int) : List Value := l.map (Value.int .i64)
theorem ivs_app (a b : List Int) : ivs (a ++ b) = ivs a ++ ivs b := by simp [ivs]
/-- What the rounds hold. -/
structure GpL (w wr : World) (g : Nat) (o0 : Option (List Int)) (N : Nat) (v : Value) (m : Nat) : Prop where
  ex : ∃ (zs : List Int) (b : Bool) (done : List Int), LR wr g zs b ∧ Chg w wr (fun j => j = g) ∧ wr.ownsRow w.heap.size 3 1 v m (ivs done) ∧ (∀ z ∈ done, 0 ≤ z ∧ z ≤ 7) ∧ done.length = m ∧ ∀ o2 L, Rds (manyP (countP 7) (N - m)) (stL zs b) o2 L → Rds (manyP (countP 7) N) o0 o2 (done ++ L)
theorem GpL.next {w wr w1 : World} {g : Nat} {zs1 zs2 : List Int} {b1 b2 : Bool} {o0 : Option (List Int)} {N m : Nat} {ax : Option Addr} {cx : Nat} {done : List Int} {v : Int} (hg : g < w.heap.size)
    (hx : LR wr g zs1 b1 ∧ Chg w wr (fun j => j = g) ∧ wr.ownsRow w.heap.size 3 1 (.slice ax m cx) m (ivs done) ∧ (∀ z ∈ done, 0 ≤ z ∧ z ≤ 7) ∧ done.length = m ∧ ∀ o2 L, Rds (manyP (countP 7) (N - m)) (stL zs1 b1) o2 L → Rds (manyP (countP 7) N) o0 o2 (done ++ L)) (hlt : m < N) (v0 : 0 ≤ v) (v1 : v ≤ 7) (L2 : LR w1 g zs2 b2) (C2 : Chg wr w1 (fun j => j = g)) (D2 : Rds (countP 7) (stL zs1 b1) (stL zs2 b2) v) :
    w.heap.size ≤ (w1.alloc (.cells #[.int .i64 v] 3)).heap.size ∧ (w1.alloc (.cells #[.int .i64 v] 3)).ownsRow w.heap.size 3 1 (.slice ax m cx) m (ivs done) ∧ ∀ ax6 cx6 w6, w6.ownsRow w.heap.size 3 1 (.slice ax6 (m + 1) cx6) (m + 1) (ivs done ++ [.int .i64 v]) → Chg (w1.alloc (.cells #[.int .i64 v] 3)) w6 (fun j => w.heap.size ≤ j) → GpL w w6 g o0 N (.slice ax6 (m + 1) cx6) (m + 1) := by
  have ba : Below w1.heap.size w1 (w1.alloc (.cells #[.int .i64 v] 3)) := (Below.refl _ _).alloc (Nat.le_refl _) _
  have c1 : Chg w (w1.alloc (.cells #[.int .i64 v] 3)) (fun j => j = g) := (hx.2.1.trans C2 (fun _ _ x => x)).trans (Chg.of_below ba _) (fun _ _ x => x)
  have c2 : Chg wr (w1.alloc (.cells #[.int .i64 v] 3)) (fun j => j = g) := C2.trans (Chg.of_below ba _) (fun _ _ x => x)
  refine ⟨c1.size, owns_stay hx.2.2.1 (fun r h1 h2 => c2.block r h2 (by omega)), fun ax6 cx6 w6 own6 C6 => ⟨zs2, b2, done ++ [v], (L2.past ba).above C6 (fun j e => by omega), c1.trans C6 (fun j hj e => by omega), by rw [ivs_app]; exact own6, fun z hz => ?_, by simp [hx.2.2.2.2.1], fun o2 L h2 => ?_⟩⟩
  · rcases List.mem_append.1 hz with e | e
    · exact hx.2.2.2.1 z e
    · simp at e; rw [e]; exact ⟨v0, v1⟩
  · have e : N - m = (N - (m + 1)) + 1 := by omega
    rw [List.append_assoc]
    refine hx.2.2.2.2.2 o2 _ ?_
    rw [e]
    exact many_seq D2 h2
set_option maxHeartbeats 1000000 in
theorem lgoodps_any (a : Option Addr) (N cap : Nat) (l : List Int) (w : World) (hl : l.length = N) (hN : N ≤ 1000000) (h : IntsAt w a l) :
    Calls Try.prog 58 #[.slice a N cap] w fun e w' => e = .returned (.bool (partsB l)) ∧ w' = w := by
  by_cases h0 : N = 0
  · subst h0
    have e : l = [] := List.eq_nil_of_length_eq_zero hl
    subst e
    have E : Hid (partsB [] = false) := rfl
    clear hl h hN
    go_enter Try.func58, Try.ntmps58
    go_wp2
    refine wp_loop_rounds 1 ?_
    rw [rounds_succ]
    go_wp2
    go_returns
    exact ⟨rfl, rfl⟩
  · obtain ⟨b, off, rfl, hc⟩ : ∃ b off, a = some ⟨b, off, none⟩ ∧ ∀ j, j < l.length → w.cell? ⟨b, off + j, none⟩ = some (.int .i64 (l.getD j 0)) := by
      rcases h.cells with e | e
      · rw [e] at hl; simp at hl; exact absurd hl.symm h0
      · exact e
    have HC : Hid (∀ j, j < N → w.cell? ⟨b, off + j, none⟩ = some (.int .i64 (l.getD j 0))) := fun j hj => hc j (by omega)
    have HBD : Hid (∀ j, j < N → -9223372036854775808 ≤ l.getD j 0 ∧ l.getD j 0 ≤ 9223372036854775807) := fun j hj => h.bounds _ (by rw [List.getD_eq_getElem?_getD, List.getElem?_eq_getElem (by omega)]; exact List.getElem_mem _)
    have HP : Hid (partsB l = upP (prevP l 0) (l.drop 0)) := by
      show (upP (-1) l && decide (0 < l.length)) = upP (-1) l
      rw [decide_eq_true (by omega), Bool.and_true]
    have HU : Hid (∀ i, i < N → upP (prevP l i) (l.drop i) = (decide (prevP l i < l.getD i 0 ∧ 0 ≤ l.getD i 0 ∧ l.getD i 0 ≤ 7) && upP (prevP l (i + 1)) (l.drop (i + 1)))) := fun i hi => up_step (by omega)
    have HZ : Hid (∀ i, ¬ i < N → upP (prevP l i) (l.drop i) = true) := fun i hi => by rw [List.drop_eq_nil_of_le (by omega)]; rfl
    have HPN : Hid (∀ i, prevP l (i + 1) = l.getD i 0) := fun i => by unfold prevP; simp
    have hpos : (0 : Int) < (N : Int) := by omega
    clear h hc hl h0
    go_enter Try.func58, Try.ntmps58
    go_wp2
    go_loopw [3, 8] (fun p i wr => ∃ (n : Nat) (x : Int), n ≤ N ∧ i = .int .i64 n ∧ p = .int .i64 x ∧ wr = w ∧ 0 ≤ x ∧ x ≤ 8 ∧ Hid (prevP l n = x - 1) ∧ Hid (partsB l = upP (prevP l n) (l.drop n))) (fun _ i _ => N - (intOf i).toNat)
    case atStart => exact ⟨0, 0, Nat.zero_le _, rfl, rfl, rfl, by omega, by omega, rfl, HP⟩
    case round =>
      obtain ⟨n, x, hn, rfl, rfl, rfl, hx0, hx8, HPX, HI⟩ := hrel
      have hn0 : (0 : Int) ≤ (n : Int) := by omega
      by_cases hlt : n < N
      · have hcn := HC.out n hlt
        have HS : Hid (partsB l = (decide (prevP l n < l.getD n 0 ∧ 0 ≤ l.getD n 0 ∧ l.getD n 0 ≤ 7) && upP (prevP l (n + 1)) (l.drop (n + 1)))) := HI.out.trans (HU.out n hlt)
        rw [HPX.out] at HS
        have HPN2 := HPN.out n
        obtain ⟨X, hX⟩ : ∃ X, X = l.getD n 0 := ⟨_, rfl⟩
        rw [← hX] at hcn HS HPN2
        have HPN3 : Hid (prevP l (n + 1) = X) := HPN2
        have hltI : (n : Int) < (N : Int) := by omega
        clear HI hX HPN2 HPX
        by_cases c1 : X < x
        · have E : Hid (partsB l = false) := by rw [HS.out, decide_eq_false (by omega)]; rfl
          clear HS
          go_wp2
          go_returns
          exact ⟨by rw [E.out]; rfl, rfl⟩
        · have c1' : decide (X < x) = false := decide_eq_false c1
          by_cases c2 : 8 ≤ X
          · have E : Hid (partsB l = false) := by rw [HS.out, decide_eq_false (by omega)]; rfl
            clear HS
            go_wp2
            go_returns
            exact ⟨by rw [E.out]; rfl, rfl⟩
          · have c2' : decide (8 ≤ X) = false := decide_eq_false c2
            have E : Hid (partsB l = upP (prevP l (n + 1)) (l.drop (n + 1))) := by rw [HS.out, decide_eq_true (by omega), Bool.true_and]; exact rfl
            have EX : Hid (prevP l (n + 1) = (X + 1) - 1) := by rw [HPN3.out]; show X = _; omega
            clear HS HPN3
            go_wp2
            exact ⟨⟨n + 1, X + 1, by omega, by go_num, by go_num, by first | rfl | trivial, by omega, by omega, EX, E⟩, by simp [intOf]; omega⟩
      · have E : Hid (partsB l = true) := HI.out.trans (HZ.out n hlt)
        have hnN : n = N := by omega
        subst hnN
        clear HI
        go_wp2
        go_returns
        exact ⟨by rw [E.out]; exact congrArg (fun x => Ending.returned (Value.bool x)) (decide_eq_true (by omega)), rfl⟩
end Go.Proofs.Ytcppihpehipelaa

