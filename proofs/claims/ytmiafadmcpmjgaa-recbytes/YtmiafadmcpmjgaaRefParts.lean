/-
  The document's own look at a list of nodes: rising, from 0 to 7, at least one.
-/
import Derived.Test.YtmiafadmcpmjgaaRecPlain
import Derived.Test.YtmiafadmcpmjgaaNested
import Derived.Test.YtmiafadmcpmjgaaCiv
import Derived.Deep.QuietTactic
import Derived.BigQuiet
namespace Go.Proofs.Ytmiafadmcpmjgaa
open Go.RowKit
set_option linter.unusedVariables false

/-- Numbers that lie one behind the other. -/
structure IntsAt (w : World) (a : Option Addr) (l : List Int) : Prop where
  cells : l = [] ∨ ∃ b off, a = some ⟨b, off, none⟩ ∧ ∀ j, j < l.length → w.cell? ⟨b, off + j, none⟩ = some (.int .i64 (l.getD j 0))
  bounds : ∀ z ∈ l, -9223372036854775808 ≤ z ∧ z ≤ 9223372036854775807
theorem drew_on {w u : World} (h : ∃ q, u = w.drewN q) (n : Nat) : ∃ q, u.drewN n = w.drewN q := by
  obtain ⟨q, rfl⟩ := h
  exact ⟨_, World.drewN_drewN w q n⟩
def prevP (l : List Int) (i : Nat) : Int := if i = 0 then -1 else l.getD (i - 1) 0
theorem up_step {l : List Int} {i : Nat} (hi : i < l.length) : upP (prevP l i) (l.drop i) = (decide (prevP l i < l.getD i 0 ∧ 0 ≤ l.getD i 0 ∧ l.getD i 0 ≤ 7) && upP (prevP l (i + 1)) (l.drop (i + 1))) := by
  have e : l.drop i = l.getD i 0 :: l.drop (i + 1) := by rw [List.drop_eq_getElem_cons hi]; simp [List.getD, hi]
  rw [e]
  show (decide _ && upP (l.getD i 0) _) = _
  have e2 : prevP l (i + 1) = l.getD i 0 := by unfold prevP; simp
  rw [e2]
set_option maxHeartbeats 1000000 in
theorem rparts14_any (a : Option Addr) (N cap : Nat) (l : List Int) (w : World) (hl : l.length = N) (hN : N ≤ 1000000) (h : IntsAt w a l) :
    Calls Try.prog 57 #[.slice a N cap] w fun e w' => e = .returned (.bool (partsB l)) ∧ ∃ q, w' = w.drewN q := by
  by_cases h0 : N = 0
  · subst h0
    have e : l = [] := List.eq_nil_of_length_eq_zero hl
    subst e
    have E : Hid (partsB [] = false) := rfl
    clear hl h hN
    go_enter Try.func57, Try.ntmps57
    go_wp2
    refine wp_loop_rounds 1 ?_
    rw [rounds_succ]
    go_wp2
    go_returns
    exact ⟨rfl, 0, rfl⟩
  · obtain ⟨b, off, rfl, hc⟩ : ∃ b off, a = some ⟨b, off, none⟩ ∧ ∀ j, j < l.length → w.cell? ⟨b, off + j, none⟩ = some (.int .i64 (l.getD j 0)) := by
      rcases h.cells with e | e
      · rw [e] at hl; simp at hl; exact absurd hl.symm h0
      · exact e
    have HC : Hid (∀ u, (∃ q, u = w.drewN q) → ∀ j, j < N → u.cell? ⟨b, off + j, none⟩ = some (.int .i64 (l.getD j 0))) := by
      rintro u ⟨q, rfl⟩ j hj
      exact hc j (by omega)
    have HP : Hid (partsB l = upP (prevP l 0) (l.drop 0)) := by
      show (upP (-1) l && decide (0 < l.length)) = upP (-1) l
      rw [decide_eq_true (by omega), Bool.and_true]
    have HU : Hid (∀ i, i < N → upP (prevP l i) (l.drop i) = (decide (prevP l i < l.getD i 0 ∧ 0 ≤ l.getD i 0 ∧ l.getD i 0 ≤ 7) && upP (prevP l (i + 1)) (l.drop (i + 1)))) := fun i hi => up_step (by omega)
    have HZ : Hid (∀ i, ¬ i < N → upP (prevP l i) (l.drop i) = true) := fun i hi => by rw [List.drop_eq_nil_of_le (by omega)]; rfl
    have hpos : (0 : Int) < (N : Int) := by omega
    clear h hc hl h0
    go_enter Try.func57, Try.ntmps57
    go_wp2
    go_loopw [3] (fun i wr => ∃ (n : Nat), n ≤ N ∧ i = .int .i64 n ∧ Hid (∃ q, wr = w.drewN q) ∧ Hid (partsB l = upP (prevP l n) (l.drop n))) (fun i _ => N - (intOf i).toNat)
    case atStart => exact ⟨0, Nat.zero_le _, rfl, ⟨0, rfl⟩, HP⟩
    case round =>
      obtain ⟨n, hn, rfl, HW, HI⟩ := hrel
      have hn0 : (0 : Int) ≤ (n : Int) := by omega
      by_cases hlt : n < N
      · have hcn : wr.cell? ⟨b, off + n, none⟩ = some (.int .i64 (l.getD n 0)) := HC.out wr HW.out n hlt
        have HS : Hid (partsB l = (decide (prevP l n < l.getD n 0 ∧ 0 ≤ l.getD n 0 ∧ l.getD n 0 ≤ 7) && upP (prevP l (n + 1)) (l.drop (n + 1)))) := HI.out.trans (HU.out n hlt)
        obtain ⟨X, hX⟩ : ∃ X, X = l.getD n 0 := ⟨_, rfl⟩
        rw [← hX] at hcn HS
        have hltI : (n : Int) < (N : Int) := by omega
        clear HI hX
        by_cases c1 : X < 0
        · have E : Hid (partsB l = false) := by rw [HS.out, decide_eq_false (by omega)]; rfl
          clear HS
          go_wp2
          go_quiet (fail)
          go_wp2
          go_returns
          exact ⟨by rw [E.out]; rfl, drew_on HW.out _⟩
        · have c1' : decide (X < 0) = false := decide_eq_false c1
          by_cases c2 : 7 < X
          · have E : Hid (partsB l = false) := by rw [HS.out, decide_eq_false (by omega)]; rfl
            clear HS
            go_wp2
            go_quiet (fail)
            go_wp2
            go_returns
            exact ⟨by rw [E.out]; rfl, drew_on HW.out _⟩
          · have c2' : decide (7 < X) = false := decide_eq_false c2
            by_cases c3 : n = 0
            · subst c3
              have hd : prevP l 0 < X ∧ 0 ≤ X ∧ X ≤ 7 := by unfold prevP; rw [if_pos rfl]; omega
              have E : Hid (partsB l = upP (prevP l (0 + 1)) (l.drop (0 + 1))) := by
                rw [HS.out, decide_eq_true hd, Bool.true_and]
                exact rfl
              clear hd
              have hcn0 : wr.cell? ⟨b, off, none⟩ = some (.int .i64 X) := hcn
              clear HS
              go_wp2
              go_quiet (fail)
              go_wp2
              go_round
              case rel => exact ⟨0 + 1, by omega, by go_num, drew_on HW.out _, E⟩
              case measure => simp [intOf]; omega
            · obtain ⟨p, hp⟩ : ∃ p, p = l.getD (n - 1) 0 := ⟨_, rfl⟩
              obtain ⟨m, hm⟩ : ∃ m, m = n - 1 := ⟨_, rfl⟩
              have hcp : wr.cell? ⟨b, off + m, none⟩ = some (.int .i64 p) := by rw [hp, hm]; exact HC.out wr HW.out (n - 1) (by omega)
              have hk : (n : Int) - 1 = (m : Int) := by omega
              have hn2 : 0 < n := by omega
              have hn1 : decide (0 < n) = true := decide_eq_true hn2
              have hk0 : (0 : Int) ≤ (m : Int) := by omega
              have hk1 : (m : Int) < (N : Int) := by omega
              have hnp : (0 : Int) < (n : Int) := by omega
              have HV : Hid (prevP l n = p) := by unfold prevP; rw [if_neg c3]; exact hp.symm
              rw [HV.out] at HS
              clear hp hm
              by_cases c4 : X ≤ p
              · have E : Hid (partsB l = false) := by rw [HS.out, decide_eq_false (by omega)]; rfl
                clear HS
                go_wp2
                go_quiet (fail)
                go_wp2
                go_returns
                exact ⟨by rw [E.out]; rfl, drew_on HW.out _⟩
              · have E : Hid (partsB l = upP (prevP l (n + 1)) (l.drop (n + 1))) := by rw [HS.out, decide_eq_true (by omega), Bool.true_and]; exact rfl
                clear HS
                go_wp2
                go_quiet (fail)
                go_wp2
                go_round
                case rel => exact ⟨n + 1, by omega, by go_num, drew_on HW.out _, E⟩
                case measure => simp [intOf]; omega
      · have E : Hid (partsB l = true) := HI.out.trans (HZ.out n hlt)
        have hnN : n = N := by omega
        subst hnN
        clear HI
        go_wp2
        go_returns
        exact ⟨by rw [E.out]; exact congrArg (fun x => Ending.returned (Value.bool x)) (decide_eq_true (by omega)), HW.out⟩
end Go.Proofs.Ytmiafadmcpmjgaa
