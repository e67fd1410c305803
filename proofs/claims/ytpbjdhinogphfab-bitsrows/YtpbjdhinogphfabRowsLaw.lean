/-
  BitsRows: for every two lists of numbers the law's Go text returns true: numbers one behind the other are read back one by one, unlike rows have unlike bytes. No conditions.
-/
import Derived.Test.YtpbjdhinogphfabRows
import Derived.Test.YtpbjdhinogphfabRowsPlain
import Derived.WalkKit
import Derived.ProofKit
import Derived.OpenShut
import Derived.ShutString
import Derived.ChangeOld
import Derived.Below
namespace Go.Proofs.Ytpbjdhinogphfab.bitsRows
open Go.ChangeShapes Go.WideShapes Go.ChangeAt Go.RowKit
open Go.ChangeMaps (open_string shut_string)
set_option linter.unusedVariables false

theorem own : ownKnob Try.prog.godebug = none := by kernel_rfl
theorem laidOut : laidOutB Try.prog = true := by kernel_rfl

/-- WHAT THE WALK IS TOLD OF A SLICE OF INTEGERS THAT CAME IN: it is nil; or it leads to a row of 'cap' cells, the numbers 'zs' (the first 'len' are its elements, the rest its spare room), each fitting its kind. -/
def IsRow (k : IntKind) (w : World) (a : Option Addr) (len cap : Nat) (zs : List Int) : Prop :=
  (a = none ∧ len = 0 ∧ cap = 0 ∧ zs = []) ∨
  ∃ x, a = some x ∧ len ≤ cap ∧ cap ≤ maxLen ∧ zs.length = cap ∧ (∀ i, i < zs.length → w.cell? (x.add i) = some (.int k (zs.getD i 0))) ∧ ∀ n ∈ zs, (Lit.int k n).wf = true

/-- Put at a slice whose bytes are known. -/
theorem put_at (ax : Option Addr) (n cx : Nat) (zs : List Int) (v : Int) (w : World) (hn : zs.length = n) (hrow : Row w ax zs) (hm : n ≤ 400) (h0 : 0 ≤ v) (h1 : v ≤ 18446744073709551615) :
    Calls Try.prog 7 #[.slice ax n cx, .int .u64 v] w fun e w' => ∃ m, e = .returned (.slice (some ⟨w.heap.size, 0, none⟩) m m) ∧ (zs ++ Pl.putI v).length = m ∧ Row w' (some ⟨w.heap.size, 0, none⟩) (zs ++ Pl.putI v) ∧ Below w.heap.size w w' := by
  subst hn
  refine (put_row ax cx zs v w hrow (by omega) h0 h1).mono ?_
  rintro e w' ⟨rfl, h2, h3, _⟩
  exact ⟨_, rfl, rfl, h2, h3⟩

theorem str_at {w : World} {a : Option Addr} {zs : List Int} {n : Nat} (hn : zs.length = n) (h : Row w a zs) (cap : Nat) :
    (convert 28 9 (.slice a n cap)).run Try.prog w = .ok (.string (strOfNums zs)) w := by subst hn; exact str_of_row h cap
theorem get_at (ax : Option Addr) (n cx : Nat) (v : Int) (r : List Int) (w : World) (hn : (Pl.putI v ++ r).length = n) (hrow : Row w ax (Pl.putI v ++ r)) (hm : n ≤ 400) (h0 : 0 ≤ v) (h1 : v ≤ 18446744073709551615) :
    Calls Try.prog 8 #[.slice ax n cx] w fun e w' => e = .returned (.tuple #[.int .u64 v, .int .i64 ((Pl.putI v).length : Int), .int .i64 0]) ∧ w' = w := by
  subst hn
  have h := get_any ax cx (Pl.putI v ++ r) w hrow (by omega)
  rw [Pl.get_put v r h0 h1] at h
  exact h
theorem same_str {A B : List Int} (hA : In64 A) (hB : In64 B) : ((strOfNums (puts A)).toList == (strOfNums (puts B)).toList) = decide (A = B) := by
  by_cases h : A = B
  · subst h; simp
  · have : ¬ (strOfNums (puts A)).toList = (strOfNums (puts B)).toList := fun e => h (puts_inj A B hA hB (str_inj (puts_bytes A hA) (puts_bytes B hB) e))
    simp [h, this]
theorem drop_next (A : List Int) (k : Nat) (h : k < A.length) : puts (A.drop k) = Pl.putI (A[k]?.getD 0) ++ puts (A.drop (k + 1)) := by
  rw [drop_at A k h]; rfl

theorem take_step {A B : List Int} {k j t : Nat} (hkj : k = j) (h : A.take t = B.take t) (hA : t < A.length) (hB : t < B.length) : (A[t]?.getD 0 == B[t]?.getD 0) = decide (k = j ∧ A.take (t + 1) = B.take (t + 1)) := by
  have e1 : A.take (t + 1) = B.take t ++ [A[t]] := by rw [List.take_succ_eq_append_getElem hA, h]
  have e2 : B.take (t + 1) = B.take t ++ [B[t]] := List.take_succ_eq_append_getElem hB
  have e3 : A[t]?.getD 0 = A[t] := by simp [hA]
  have e4 : B[t]?.getD 0 = B[t] := by simp [hB]
  rw [e1, e2, e3, e4]
  by_cases e : A[t] = B[t]
  · simp [hkj, e]
  · have n1 : ¬ (k = j ∧ B.take t ++ [A[t]] = B.take t ++ [B[t]]) := fun h' => e (by have := List.append_cancel_left h'.2; simpa using this)
    rw [decide_eq_false n1]
    simpa using e
theorem end_same {A B : List Int} {k j t : Nat} {b : Bool} (hA : A.length = k) (hB : B.length = j) (hb : b = decide (k = j ∧ A.take t = B.take t)) (ht : t ≤ k) (hgo : ¬ (b = true ∧ t < k)) : b = decide (A = B) := by
  cases b with
  | true =>
    obtain ⟨h1, h2⟩ := of_decide_eq_true hb.symm
    have : t = k := by have : ¬ t < k := fun h => hgo ⟨rfl, h⟩
                       omega
    subst this
    have e1 : A.take t = A := by rw [← hA]; exact List.take_length
    have e2 : B.take t = B := by rw [h1, ← hB]; exact List.take_length
    rw [e1, e2] at h2
    simp [h2]
  | false =>
    have h := of_decide_eq_false hb.symm
    have : ¬ A = B := fun e => h ⟨by rw [← hA, ← hB, e], by rw [e]⟩
    simp [this]

theorem row_cut {w : World} {ap : Option Addr} {P R : List Int} {np cp : Nat} (h : Row w ap (P ++ R)) (hn : (P ++ R).length = np) (hc : np ≤ cp) :
    Row w (if cp = P.length then ap else Option.map (fun x => x.add P.length) ap) R := by
  refine ⟨fun z hz => h.bytes z (List.mem_append.2 (.inr hz)), ?_⟩
  by_cases hR : R = []
  · exact .inl hR
  · right
    have hl : 0 < R.length := List.length_pos_iff.2 hR
    rw [List.length_append] at hn
    rcases h.cells with h0 | ⟨b, off, rfl, hcell⟩
    · have := (List.append_eq_nil_iff.1 h0).2; exact absurd this hR
    · refine ⟨b, off + P.length, ?_, fun j hj => ?_⟩
      · rw [if_neg (by omega)]; simp only [Option.map_some, add_plain]
      · have := hcell (P.length + j) (by rw [List.length_append]; omega)
        rw [← Nat.add_assoc] at this
        rw [this]
        simp [List.getD, List.getElem?_append_right]

set_option maxHeartbeats 4000000 in
theorem walk (a0 : Option Addr) (len0 cap0 : Nat) (z0 : List Int) (a1 : Option Addr) (len1 cap1 : Nat) (z1 : List Int) (w : World) (w0 : IsRow .u64 w a0 len0 cap0 z0) (w1 : IsRow .u64 w a1 len1 cap1 z1) :
    Calls Try.prog 4 #[.slice a0 len0 cap0, .slice a1 len1 cap1] w fun e w' => e = .returned (.bool true) ∧ Below w.heap.size w w' := by
  obtain ⟨A, hA, rA⟩ := row64_of w0
  obtain ⟨B, hB, rB⟩ := row64_of w1
  clear w0 w1
  by_cases h0 : 30 < len0
  · have h0' : (30 : Int) < (len0 : Int) := by omega
    clear hA rA hB rB
    go_enter Try.func4, Try.ntmps4
    go_wp2_with (go_at_call 5; refine (awake_any _).mono ?_; rintro e w1 ⟨rfl, hb⟩)
    go_ret
    exact ⟨rfl, hb⟩
  by_cases h1 : 30 < len1
  · have h1' : (30 : Int) < (len1 : Int) := by omega
    clear hA rA hB rB
    go_enter Try.func4, Try.ntmps4
    go_wp2_with (go_at_call 5; refine (awake_any _).mono ?_; rintro e w1 ⟨rfl, hb⟩)
    go_ret
    exact ⟨rfl, hb⟩
  have HA : Hid (A.length = len0) := hA
  have HB : Hid (B.length = len1) := hB
  have RA : Hid (Row64 w a0 A) := rA
  have RB : Hid (Row64 w a1 B) := rB
  clear hA hB rA rB
  go_enter Try.func4, Try.ntmps4
  go_wp2_with (go_at_call 5; refine (awake_any _).mono ?_; rintro e w1 ⟨rfl, hb⟩)
  have HB1 : Hid (Below w.heap.size w w1) := hb
  clear hb
  go_loopw [5, 7] (fun x i wr => ∃ (k : Nat) (ax : Option Addr) (n cx : Nat), k ≤ len0 ∧ i = .int .i64 k ∧ x = .slice ax n cx ∧ n ≤ cx ∧ Hid ((puts (A.take k)).length = n) ∧ Hid (Row wr ax (puts (A.take k))) ∧ Hid (Below w.heap.size w wr)) (fun _ i _ => len0 - (intOf i).toNat)
  case atStart => exact ⟨0, none, 0, 0, Nat.zero_le _, rfl, rfl, Nat.le_refl _, rfl, Row.nil _ _, HB1.out⟩
  case round =>
    obtain ⟨k, ax, n, cx, hk, rfl, rfl, hcx, HN, HR, HBW⟩ := hrel
    clear HB1
    by_cases hlt : k < len0
    · have hcell : ∃ b off, a0 = some ⟨b, off, none⟩ ∧ wr.cell? ⟨b, off + k, none⟩ = some (.int .u64 (A.getD k 0)) := by
        rcases (RA.out.below HBW.out (Nat.le_refl _)).cells with h | ⟨b, off, h, hc⟩
        · have := HA.out; rw [h] at this; simp at this; omega
        · exact ⟨b, off, h, hc k (by rw [HA.out]; omega)⟩
      obtain ⟨b, off, rfl, hc⟩ := hcell
      have hv := in64_at RA.out.nums k
      have hn400 : n ≤ 400 := by have := puts_length (A.take k); rw [HN.out] at this; simp at this; omega
      have HT : Hid (puts (A.take (k + 1)) = puts (A.take k) ++ Pl.putI (A[k]?.getD 0)) := take_next A k (by rw [HA.out]; omega)
      go_wp2_with (go_at_call 7; refine (put_at _ _ _ (puts (A.take k)) _ _ HN.out HR.out hn400 hv.1 hv.2).mono ?_; rintro e w2 ⟨m, rfl, hm, hrow, hb2⟩)
      go_roundw
      case rel => exact ⟨k + 1, _, m, m, by omega, by go_num, rfl, Nat.le_refl _, by show _ = _; rw [HT.out]; exact hm, by show Row _ _ _; rw [HT.out]; exact hrow, HBW.out.trans (hb2.mono HBW.out.size)⟩
      case measure => simp [intOf]; omega
    · obtain rfl : k = len0 := by omega
      have HTA : Hid (A.take k = A) := by show _ = _; rw [← HA.out]; exact List.take_length
      clear hlt hk
      obtain ⟨wA, rfl⟩ : ∃ wA : World, wA = wr := ⟨wr, rfl⟩
      go_wp2_with fail
      go_loopw [6, 8] (fun y i wq => ∃ (j : Nat) (ay : Option Addr) (ny cy : Nat), j ≤ len1 ∧ i = .int .i64 j ∧ y = .slice ay ny cy ∧ Hid ((puts (B.take j)).length = ny) ∧ Hid (Row wq ay (puts (B.take j))) ∧ Hid (Below wA.heap.size wA wq)) (fun _ i _ => len1 - (intOf i).toNat)
      case atStart => exact ⟨0, none, 0, 0, Nat.zero_le _, rfl, rfl, rfl, Row.nil _ _, Below.refl _ _⟩
      case round =>
        obtain ⟨j, ay, ny, cy, hj, rfl, rfl, HNY, HRY, HBY⟩ := hrel
        have HBB : Hid (Below w.heap.size w wr) := HBW.out.trans (HBY.out.mono HBW.out.size)
        by_cases hlt : j < len1
        · have hcell : ∃ b off, a1 = some ⟨b, off, none⟩ ∧ wr.cell? ⟨b, off + j, none⟩ = some (.int .u64 (B.getD j 0)) := by
            rcases (RB.out.below HBB.out (Nat.le_refl _)).cells with h | ⟨b, off, h, hc⟩
            · have := HB.out; rw [h] at this; simp at this; omega
            · exact ⟨b, off, h, hc j (by rw [HB.out]; omega)⟩
          obtain ⟨b, off, rfl, hc⟩ := hcell
          have hv := in64_at RB.out.nums j
          have hn400 : ny ≤ 400 := by have := puts_length (B.take j); rw [HNY.out] at this; simp at this; omega
          have HT : Hid (puts (B.take (j + 1)) = puts (B.take j) ++ Pl.putI (B[j]?.getD 0)) := take_next B j (by rw [HB.out]; omega)
          go_wp2_with (go_at_call 7; refine (put_at _ _ _ (puts (B.take j)) _ _ HNY.out HRY.out hn400 hv.1 hv.2).mono ?_; rintro e w2 ⟨m, rfl, hm, hrow, hb2⟩)
          go_roundw
          case rel => exact ⟨j + 1, _, m, m, by omega, by go_num, rfl, by show _ = _; rw [HT.out]; exact hm, by show Row _ _ _; rw [HT.out]; exact hrow, HBY.out.trans (hb2.mono HBY.out.size)⟩
          case measure => simp [intOf]; omega
        · obtain rfl : j = len1 := by omega
          clear hlt hj
          obtain ⟨b0, hb0⟩ : ∃ b0, ((k : Int) == (j : Int)) = b0 := ⟨_, rfl⟩
          have HB0 : Hid (b0 = decide (k = j)) := by
            show _ = _
            rw [← hb0]
            by_cases h : k = j
            · subst h; simp
            · have : ¬ (k : Int) = (j : Int) := by omega
              simp [h, this]
          have HXY : Hid (Row wr ax (puts A)) := by have h := HR.out.below HBY.out (Nat.le_refl _); rw [HTA.out] at h; exact h
          have HNX : Hid ((puts A).length = n) := by have h := HN.out; rw [HTA.out] at h; exact h
          have HTB : Hid (B.take j = B) := by show _ = _; rw [← HB.out]; exact List.take_length
          have HYY : Hid (Row wr ay (puts B)) := by have h := HRY.out; rw [HTB.out] at h; exact h
          have HNYY : Hid ((puts B).length = ny) := by have h := HNY.out; rw [HTB.out] at h; exact h
          clear HR HN HRY HNY HBY HBW HTA HTB
          obtain ⟨wC, rfl⟩ : ∃ wC : World, wC = wr := ⟨wr, rfl⟩
          go_wp2_with fail
          clear hb0
          go_loopw [9, 10] (fun al i wq => ∃ (t : Nat) (b : Bool), t ≤ k ∧ i = .int .i64 t ∧ al = .bool b ∧ Hid (b = decide (k = j ∧ A.take t = B.take t)) ∧ Hid (Below wC.heap.size wC wq)) (fun _ i _ => k - (intOf i).toNat)
          case atStart => exact ⟨0, b0, Nat.zero_le _, rfl, rfl, by show _ = _; rw [HB0.out]; simp, Below.refl _ _⟩
          case round =>
            obtain ⟨t, b, ht, rfl, rfl, HBT, HBC⟩ := hrel
            clear HB0
            have HCW : Hid (Below w.heap.size w wr) := HBB.out.trans (HBC.out.mono HBB.out.size)
            by_cases hgo : b = true ∧ t < k
            · obtain ⟨rfl, hlt⟩ := hgo
              obtain ⟨hkj, HEQ⟩ := of_decide_eq_true HBT.out.symm
              have HKJ : Hid (k = j) := hkj
              have hlj : t < j := by omega
              have HS : Hid _ := take_step hkj HEQ (by rw [HA.out]; omega) (by rw [HB.out]; omega)
              clear HEQ hkj HBT
              have hcell : ∃ b off, a0 = some ⟨b, off, none⟩ ∧ wr.cell? ⟨b, off + t, none⟩ = some (.int .u64 (A.getD t 0)) := by
                rcases (RA.out.below HCW.out (Nat.le_refl _)).cells with h | ⟨b, off, h, hc⟩
                · have := HA.out; rw [h] at this; simp at this; omega
                · exact ⟨b, off, h, hc t (by rw [HA.out]; omega)⟩
              obtain ⟨b, off, rfl, hc⟩ := hcell
              have hcell1 : ∃ b off, a1 = some ⟨b, off, none⟩ ∧ wr.cell? ⟨b, off + t, none⟩ = some (.int .u64 (B.getD t 0)) := by
                rcases (RB.out.below HCW.out (Nat.le_refl _)).cells with h | ⟨b, off, h, hc⟩
                · have := HB.out; rw [h] at this; simp at this; omega
                · exact ⟨b, off, h, hc t (by rw [HB.out]; omega)⟩
              obtain ⟨b1, off1, rfl, hc1⟩ := hcell1
              go_wp2_with fail
              go_region
              all_goals
                go_wp2_with fail
                go_roundw
                case rel => exact ⟨t + 1, _, by omega, by go_num, rfl, HS.out, HBC.out.drew⟩
                case measure => simp [intOf]; omega
            · have HAB : Hid (b = decide (A = B)) := end_same HA.out HB.out HBT.out ht hgo
              have hx := str_at HNX.out (HXY.out.below HBC.out (Nat.le_refl _)) cx
              have hy := str_at HNYY.out (HYY.out.below HBC.out (Nat.le_refl _)) cy
              have hse : ((strOfNums (puts A)).toList == (strOfNums (puts B)).toList) = b := by rw [HAB.out]; exact same_str RA.out.nums RB.out.nums
              obtain ⟨wD, rfl⟩ : ∃ wD : World, wD = wr := ⟨wr, rfl⟩
              cases b with
              | true =>
                have htk : ¬ t < k := fun h => hgo ⟨rfl, h⟩
                clear hgo
                go_wp2_with fail
                go_loop [5, 11] (fun x i => ∃ (q : Nat) (ap : Option Addr) (np cp : Nat), q ≤ k ∧ i = .int .i64 q ∧ x = .slice ap np cp ∧ np ≤ cp ∧ Hid ((puts (A.drop q)).length = np) ∧ Hid (Row wD ap (puts (A.drop q)))) (fun _ i => k - (intOf i).toNat)
                case atStart => exact ⟨0, ax, n, cx, Nat.zero_le _, rfl, rfl, hcx, HNX.out, HXY.out.below HBC.out (Nat.le_refl _)⟩
                case round =>
                  obtain ⟨q, ap, np, cp, hq, rfl, rfl, hcp, HNQ, HRQ⟩ := hrel
                  by_cases hlt : q < k
                  · have hcell : ∃ b off, a0 = some ⟨b, off, none⟩ ∧ wD.cell? ⟨b, off + q, none⟩ = some (.int .u64 (A.getD q 0)) := by
                      rcases (RA.out.below HCW.out (Nat.le_refl _)).cells with h | ⟨b, off, h, hc⟩
                      · have := HA.out; rw [h] at this; simp at this; omega
                      · exact ⟨b, off, h, hc q (by rw [HA.out]; omega)⟩
                    obtain ⟨b, off, rfl, hc⟩ := hcell
                    have hv := in64_at RA.out.nums q
                    have hn400 : np ≤ 400 := by have := puts_length (A.drop q); rw [HNQ.out] at this; simp at this; have := HA.out; omega
                    have HD : Hid (puts (A.drop q) = Pl.putI (A[q]?.getD 0) ++ puts (A.drop (q + 1))) := drop_next A q (by rw [HA.out]; omega)
                    have HNQ' : Hid ((Pl.putI (A[q]?.getD 0) ++ puts (A.drop (q + 1))).length = np) := by have h := HNQ.out; rw [HD.out] at h; exact h
                    have HRQ' : Hid (Row wD ap (Pl.putI (A[q]?.getD 0) ++ puts (A.drop (q + 1)))) := by have h := HRQ.out; rw [HD.out] at h; exact h
                    have hml : (Pl.putI (A[q]?.getD 0)).length ≤ np := by have h := HNQ'.out; rw [List.length_append] at h; omega
                    clear HNQ HRQ HD
                    go_wp2_with (go_at_call 8; refine (get_at _ _ _ (A[q]?.getD 0) (puts (A.drop (q + 1))) _ HNQ'.out HRQ'.out hn400 hv.1 hv.2).mono ?_; rintro e w5 ⟨rfl, hw⟩; obtain rfl := hw.symm; clear hw)
                    go_round
                    case rel => exact ⟨q + 1, _, _, _, by omega, by go_num, rfl, by omega, by show _ = _; have h := HNQ'.out; rw [List.length_append] at h; omega, row_cut HRQ'.out HNQ'.out hcp⟩
                    case measure => simp [intOf]; omega
                  · obtain rfl : q = k := by omega
                    have HE : Hid (A.drop q = []) := by show _ = _; rw [← HA.out]; exact List.drop_length
                    have hnp : np = 0 := by have h := HNQ.out; rw [HE.out] at h; exact h.symm
                    subst hnp
                    go_wp2_with fail
                    go_ret
                    exact ⟨rfl, HCW.out⟩
              | false =>
                clear hgo
                go_wp2_with fail
                go_loop [5, 11] (fun x i => ∃ (q : Nat) (ap : Option Addr) (np cp : Nat), q ≤ k ∧ i = .int .i64 q ∧ x = .slice ap np cp ∧ np ≤ cp ∧ Hid ((puts (A.drop q)).length = np) ∧ Hid (Row wD ap (puts (A.drop q)))) (fun _ i => k - (intOf i).toNat)
                case atStart => exact ⟨0, ax, n, cx, Nat.zero_le _, rfl, rfl, hcx, HNX.out, HXY.out.below HBC.out (Nat.le_refl _)⟩
                case round =>
                  obtain ⟨q, ap, np, cp, hq, rfl, rfl, hcp, HNQ, HRQ⟩ := hrel
                  by_cases hlt : q < k
                  · have hcell : ∃ b off, a0 = some ⟨b, off, none⟩ ∧ wD.cell? ⟨b, off + q, none⟩ = some (.int .u64 (A.getD q 0)) := by
                      rcases (RA.out.below HCW.out (Nat.le_refl _)).cells with h | ⟨b, off, h, hc⟩
                      · have := HA.out; rw [h] at this; simp at this; omega
                      · exact ⟨b, off, h, hc q (by rw [HA.out]; omega)⟩
                    obtain ⟨b, off, rfl, hc⟩ := hcell
                    have hv := in64_at RA.out.nums q
                    have hn400 : np ≤ 400 := by have := puts_length (A.drop q); rw [HNQ.out] at this; simp at this; have := HA.out; omega
                    have HD : Hid (puts (A.drop q) = Pl.putI (A[q]?.getD 0) ++ puts (A.drop (q + 1))) := drop_next A q (by rw [HA.out]; omega)
                    have HNQ' : Hid ((Pl.putI (A[q]?.getD 0) ++ puts (A.drop (q + 1))).length = np) := by have h := HNQ.out; rw [HD.out] at h; exact h
                    have HRQ' : Hid (Row wD ap (Pl.putI (A[q]?.getD 0) ++ puts (A.drop (q + 1)))) := by have h := HRQ.out; rw [HD.out] at h; exact h
                    have hml : (Pl.putI (A[q]?.getD 0)).length ≤ np := by have h := HNQ'.out; rw [List.length_append] at h; omega
                    clear HNQ HRQ HD
                    go_wp2_with (go_at_call 8; refine (get_at _ _ _ (A[q]?.getD 0) (puts (A.drop (q + 1))) _ HNQ'.out HRQ'.out hn400 hv.1 hv.2).mono ?_; rintro e w5 ⟨rfl, hw⟩; obtain rfl := hw.symm; clear hw)
                    go_round
                    case rel => exact ⟨q + 1, _, _, _, by omega, by go_num, rfl, by omega, by show _ = _; have h := HNQ'.out; rw [List.length_append] at h; omega, row_cut HRQ'.out HNQ'.out hcp⟩
                    case measure => simp [intOf]; omega
                  · obtain rfl : q = k := by omega
                    have HE : Hid (A.drop q = []) := by show _ = _; rw [← HA.out]; exact List.drop_length
                    have hnp : np = 0 := by have h := HNQ.out; rw [HE.out] at h; exact h.symm
                    subst hnp
                    go_wp2_with fail
                    go_ret
                    exact ⟨rfl, HCW.out⟩

/-! ### THE ROW's STEP: WRITTEN OUT: LEAVE IT -/
set_option maxRecDepth 100000 in
theorem lifted (os : Os) (started : os.Started) (H : Type) (enc : TypeId × Value → H) :
    ReturnsInHanded {} Try.checked os 4 .any (Rows.bitsRowsSpec.pre6 enc Try.prog Try.f4 Rows.bitsRowsRow.domain false) (Rows.bitsRowsSpec.post enc Try.prog Try.f4 false true false false) := by
  refine returnsInHanded_of_change (C := Try.checked) own started (by kernel_rfl) Try.func4
    (ChangeSpec.witness6 (enc := enc) (C := Try.checked) false ⟨#[], #[.slice none 0 0, .slice none 0 0], []⟩ 8 (by kernel_rfl) (by kernel_rfl) (by kernel_rfl) (by kernel_rfl)) ?_
  intro W base args ds gs before hval0 hW hcnd _
  have hval : ∀ (j : Nat) t v, Try.f4.params[j]? = some t → args[j]? = some v → Value.okWide Try.prog W .any base t v := hval0
  have hW' := hW
  obtain ⟨p, q, hA0, hV, rfl, hfz, hnd⟩ := hW
  have hA : DataW.TrodAll enc Try.prog W 0 (fun _ => true) true Try.f4.params.toList args.toList ds p := hA0
  rw [Try.params4] at hA hval
  obtain ⟨v0, vs0, d0, ds0, p0, q0, hargs, rfl, rfl, h0, r0⟩ := trodAll_cons hA
  obtain ⟨v1, vs1, d1, ds1, p1, q1, rfl, rfl, rfl, h1, r1⟩ := trodAll_cons r0
  obtain ⟨rfl, rfl, rfl⟩ := trodAll_nil r1
  obtain rfl : args = #[v0, v1] := by cases args; simp_all
  obtain ⟨rfl, rfl⟩ := trodVars_none hV
  obtain ⟨a0, len0, cap0, rfl⟩ := okWide_slice Try.underlying27 (hval 0 27 v0 rfl rfl)
  have k0 := h0
  have lt0 : ∀ x ∈ p0, x.block < W.heap.size := by obtain ⟨m, hm⟩ := k0; exact DataW.trod_lt m _ _ _ hm
  obtain ⟨z0, w0⟩ : ∃ zs, IsRow .u64 W a0 len0 cap0 zs := by
    obtain ⟨fuel, hf⟩ := h0
    rcases open_ints Try.underlying27 Try.underlying23 (by kernel_rfl) hf with ⟨hcs, _⟩ | ⟨x, l, c, zs, hcs, _, hl, hm, hz, _, hcell, hwz⟩
    · simp [Value.cells] at hcs
      obtain ⟨rfl, rfl, rfl⟩ := hcs
      exact ⟨[], .inl ⟨rfl, rfl, rfl, rfl⟩⟩
    · simp [Value.cells] at hcs
      obtain ⟨rfl, rfl, rfl⟩ := hcs
      exact ⟨zs, .inr ⟨_, rfl, hl, hm, by simpa using hz, hcell, hwz⟩⟩
  obtain ⟨a1, len1, cap1, rfl⟩ := okWide_slice Try.underlying27 (hval 1 27 v1 rfl rfl)
  have k1 := h1
  have lt1 : ∀ x ∈ p1, x.block < W.heap.size := by obtain ⟨m, hm⟩ := k1; exact DataW.trod_lt m _ _ _ hm
  obtain ⟨z1, w1⟩ : ∃ zs, IsRow .u64 W a1 len1 cap1 zs := by
    obtain ⟨fuel, hf⟩ := h1
    rcases open_ints Try.underlying27 Try.underlying23 (by kernel_rfl) hf with ⟨hcs, _⟩ | ⟨x, l, c, zs, hcs, _, hl, hm, hz, _, hcell, hwz⟩
    · simp [Value.cells] at hcs
      obtain ⟨rfl, rfl, rfl⟩ := hcs
      exact ⟨[], .inl ⟨rfl, rfl, rfl, rfl⟩⟩
    · simp [Value.cells] at hcs
      obtain ⟨rfl, rfl, rfl⟩ := hcs
      exact ⟨zs, .inr ⟨_, rfl, hl, hm, by simpa using hz, hcell, hwz⟩⟩
  clear hA0 hval0
  refine (walk a0 len0 cap0 z0 a1 len1 cap1 z1 W w0 w1).mono fun e W' ⟨he, bel⟩ => ?_
  subst he
  exact ⟨_, rfl, _, _, _, [], _, [], hW', trodAll_mk1 (shut_bool Try.underlying4 _), (trodAll_cons_mk (Below.trod laidOut (by kernel_rfl) (of_decide_eq_true (by kernel_rfl)) k0 bel lt0) (trodAll_cons_mk (Below.trod laidOut (by kernel_rfl) (of_decide_eq_true (by kernel_rfl)) k1 bel lt1) trodAll_mk0)), rfl, bel.frame _, fun h => by cases h⟩

theorem over : Rows.bitsRowsRow.holds Try.pinned (OpenSpec.ofChange Rows.bitsRowsSpec) :=
  OpenClaim.holds_of_wide 4 Try.f4 rfl rfl rfl rfl rfl rfl rfl ⟨rfl, rfl, rfl, rfl, rfl⟩ rfl rfl rfl rfl rfl (by kernel_rfl) Try.func4 (by kernel_rfl)
    (of_decide_eq_true (by kernel_rfl)) (by unfold Func.isWrapper; first | (rw [if_pos (by decide +kernel)]; kernel_rfl) | (rw [if_neg (by decide +kernel)]; exact ⟨rfl, rfl⟩))
    (fun os started H enc _ => lifted os started H enc)

/-- ████ THE STATEMENT ████ -/
theorem proved : Rows.BitsRowsSaid := over
#print axioms proved
end Go.Proofs.Ytpbjdhinogphfab.bitsRows
namespace Go.Proofs.Ytpbjdhinogphfab
/-- BitsRows, as given. -/
theorem bitsRows_holds : Rows.BitsRowsSaid := bitsRows.proved
end Go.Proofs.Ytpbjdhinogphfab
