/-
  What the landed package disk answers: good, check, find.
-/
import Derived.Test.YtlfmhdljldbjmaaDskBase
import Derived.Deep.QuietTactic
import Derived.BigQuiet
import Derived.Handy
namespace Go.Proofs.Ytlfmhdljldbjmaa
open Go.RowKit
set_option linter.unusedVariables false

set_option maxHeartbeats 1000000 in
theorem dgood_any (s : List Int) (w : World) (hs : By s) (hl : s.length ≤ 1000000) :
    Calls Try.prog 64 #[.string (strOfNums s)] w fun e w' => e = .returned (.bool (mayN s)) ∧ w' = w := by
  have HB : Hid (By s) := hs
  have HZ : Hid ((strOfNums s).size = s.length) := strOfNums_size s
  obtain ⟨S, hS⟩ : ∃ S, S = strOfNums s := ⟨_, rfl⟩
  have HS : Hid (S = strOfNums s) := hS
  rw [← hS] at HZ ⊢
  have hlz : S.size ≤ 1000000 := by rw [HZ.out]; exact hl
  obtain ⟨R, hR⟩ : ∃ R, R = mayN s := ⟨_, rfl⟩
  have HR : Hid (R = mayN s) := hR
  rw [← hR]
  clear hS hs hl hR
  by_cases h1 : S.size < 1
  · have e : R = false := by rw [HR.out]; unfold mayN; have := HZ.out; simp; omega
    subst e
    go_enter Try.func64, Try.ntmps64
    go_wp2
    go_ret
    exact ⟨rfl, rfl⟩
  by_cases h2 : 20 < S.size
  · have e : R = false := by rw [HR.out]; unfold mayN; have := HZ.out; simp; omega
    subst e
    go_enter Try.func64, Try.ntmps64
    go_wp2
    go_ret
    exact ⟨rfl, rfl⟩
  go_enter Try.func64, Try.ntmps64
  go_wp2
  go_loopw [14] (fun i wr => ∃ n : Nat, n ≤ S.size ∧ i = .int .i64 n ∧ wr = w ∧ Hid (∀ z ∈ s.take n, 33 ≤ z ∧ z ≤ 126)) (fun i _ => S.size - (intOf i).toNat)
  case atStart => exact ⟨0, Nat.zero_le _, rfl, rfl, fun z hz => by simp at hz⟩
  case round =>
    obtain ⟨n, hn, rfl, rfl, HN⟩ := hrel
    by_cases hlt : n < S.size
    · have hns : n < s.length := by rw [← HZ.out]; exact hlt
      have hz : ((S[n]'hlt).toNat : Int) = s.getD n 0 := by
        have := nums_at s HB.out n (by rw [← HS.out]; exact hlt)
        simp only [← HS.out] at this
        rw [this]; rfl
      obtain ⟨Z, hZ⟩ : ∃ Z, Z = s.getD n 0 := ⟨_, rfl⟩
      rw [← hZ] at hz
      have HZZ : Hid (Z = s.getD n 0) := hZ
      have HM : Hid (Z ∈ s) := by show _ ∈ _; rw [hZ]; simp [List.getD, hns]
      clear hZ
      by_cases z1 : Z < 33
      · have b1 : decide (Z < 33) = true := decide_eq_true z1
        have e : R = false := by
          rw [HR.out]; unfold mayN
          have : s.all (fun c => decide (33 ≤ c) && decide (c ≤ 126)) = false := by
            rw [List.all_eq_false]; exact ⟨Z, HM.out, by simp; omega⟩
          rw [this]; simp
        subst e
        go_wp2
        go_ret
        exact ⟨rfl, rfl⟩
      · have b1 : decide (Z < 33) = false := decide_eq_false z1
        by_cases z2 : 126 < Z
        · have b2 : decide (126 < Z) = true := decide_eq_true z2
          have e : R = false := by
            rw [HR.out]; unfold mayN
            have : s.all (fun c => decide (33 ≤ c) && decide (c ≤ 126)) = false := by
              rw [List.all_eq_false]; exact ⟨Z, HM.out, by simp; omega⟩
            rw [this]; simp
          subst e
          go_wp2
          go_ret
          exact ⟨rfl, rfl⟩
        · have b2 : decide (126 < Z) = false := decide_eq_false z2
          go_wp2
          exact ⟨⟨n + 1, by omega, by simp, trivial, fun z hz => by
            rw [List.take_add_one] at hz
            rcases List.mem_append.1 hz with h | h
            · exact HN.out z h
            · have e : z = Z := by rw [HZZ.out]; simp [hns] at h; simp [List.getD, hns, h]
              rw [e]; omega⟩, by simp [intOf]; omega⟩
    · obtain rfl : n = S.size := by omega
      have e : R = true := by
        rw [HR.out]; unfold mayN
        have hall : ∀ z ∈ s, 33 ≤ z ∧ z ≤ 126 := fun z hz => HN.out z (by rw [HZ.out, List.take_length]; exact hz)
        have : s.all (fun c => decide (33 ≤ c) && decide (c ≤ 126)) = true := by
          rw [List.all_eq_true]; intro z hz; have := hall z hz; simp; omega
        rw [this]; have := HZ.out; simp; omega
      subst e
      go_wp2
      go_ret
      exact ⟨rfl, rfl⟩

/-- The error that 'check' tells. -/
def DS.bad (S : DS) (s : List Int) : Int := if S.off = true then 7 else if mayN s = false then 1 else 0
set_option maxHeartbeats 1000000 in
theorem dcheck_any (b : Nat) (S : DS) (X : Foot) (s : List Int) (w : World) (h : DiskD w b S X) (hs : By s) (hl : s.length ≤ 1000000) :
    Calls Try.prog 49 #[.pointer (some ⟨b, 0, none⟩), .string (strOfNums s)] w fun e w' => e = .returned (.int .i64 (S.bad s)) ∧ w' = w := by
  obtain ⟨m, G, Y, h⟩ := h
  have c3 := h.c3
  have CM : Hid (Calls Try.prog 64 #[.string (strOfNums s)] w fun e w' => e = .returned (.bool (mayN s)) ∧ w' = w) := dgood_any s w hs hl
  have HE : Hid (S.bad s = if S.off = true then 7 else if mayN s = false then 1 else 0) := rfl
  obtain ⟨E, hE⟩ : ∃ E, E = S.bad s := ⟨_, rfl⟩
  rw [← hE]
  rw [← hE] at HE
  clear h hE
  cases ho : S.off with
  | true =>
    rw [ho] at c3
    obtain rfl : E = 7 := by rw [HE.out, ho]; rfl
    clear HE
    replace c3 : w.cell? ⟨b, 3, none⟩ = some (.bool false) := c3
    go_enter Try.func49, Try.ntmps49
    go_wp2
    go_ret
    exact ⟨rfl, rfl⟩
  | false =>
    rw [ho] at c3
    replace c3 : w.cell? ⟨b, 3, none⟩ = some (.bool true) := c3
    cases hm : mayN s with
    | false =>
      rw [hm] at CM
      obtain rfl : E = 1 := by rw [HE.out, ho, hm]; rfl
      clear HE hm
      go_enter Try.func49, Try.ntmps49
      go_wp2_with (go_at_call 64; refine CM.out.mono ?_; rintro e w' ⟨rfl, rfl⟩)
      go_ret
      exact ⟨rfl, rfl⟩
    | true =>
      rw [hm] at CM
      obtain rfl : E = 0 := by rw [HE.out, ho, hm]; rfl
      clear HE hm
      go_enter Try.func49, Try.ntmps49
      go_wp2_with (go_at_call 64; refine CM.out.mono ?_; rintro e w' ⟨rfl, rfl⟩)
      go_ret
      exact ⟨rfl, rfl⟩
theorem zero_file (w : World) : (zeroValue 73).run Try.prog w = .ok (.pointer none) w := by kernel_rfl
theorem DiskI.look {u : World} {b m : Nat} {S : DS} {X : Foot} {G : ByteArray → Option Nat} {Y : List Int → Foot} (h : DiskI u b S X m G Y) (s : List Int) (hl : s.length ≤ 1000000) :
    (Instr.lookup 59 (.map (some m)) (.string (strOfNums s)) false).run Try.prog u = .ok (ptrV (G (strOfNums s))) u :=
  h.map.look Try.underlying59 (zero_file u) _ (by rw [strOfNums_size]; exact hl)
/-- Where a file lies, by its name. -/
theorem DiskI.at_name {u : World} {b m : Nat} {S : DS} {X : Foot} {G : ByteArray → Option Nat} {Y : List Int → Foot} (h : DiskI u b S X m G Y) (s : List Int) (hs : By s) :
    (findN S.fs s = none ∧ G (strOfNums s) = none) ∨ ∃ i f g, findN S.fs s = some i ∧ S.fs[i]? = some f ∧ f.name = s ∧ G (strOfNums s) = some g ∧ FileD u g f (Y s) := by
  cases hf : findN S.fs s with
  | none =>
    refine .inl ⟨rfl, ?_⟩
    cases hG : G (strOfNums s) with
    | none => rfl
    | some g =>
      obtain ⟨f, hm, e⟩ := h.only _ _ hG
      have := str_inj hs (may_by _ (h.good.names f hm)) (congrArg ByteArray.toList e)
      exact absurd this.symm ((find_none_iff _ _).1 hf f hm)
  | some i =>
    obtain ⟨f, hi, hn⟩ := find_file _ _ _ hf
    obtain ⟨g, e, hd⟩ := h.file f (List.mem_of_getElem? hi)
    rw [hn] at e hd
    exact .inr ⟨i, f, g, rfl, hi, hn, e, hd⟩
set_option maxHeartbeats 1000000 in
set_option maxRecDepth 4000 in
theorem dfind_any (b m : Nat) (S : DS) (X : Foot) (G : ByteArray → Option Nat) (Y : List Int → Foot) (s : List Int) (w : World) (h : DiskI w b S X m G Y) (hs : By s) (hl : s.length ≤ 1000000) :
    Calls Try.prog 54 #[.pointer (some ⟨b, 0, none⟩), .string (strOfNums s)] w fun e w' => e = .returned (.tuple #[ptrV (if S.err s = 0 then G (strOfNums s) else none), .int .i64 (S.err s)]) ∧ w' = w := by
  have c0 := h.c0
  have CC : Hid (Calls Try.prog 49 #[.pointer (some ⟨b, 0, none⟩), .string (strOfNums s)] w fun e w' => e = .returned (.int .i64 (S.bad s)) ∧ w' = w) := dcheck_any b S X s w ⟨m, G, Y, h⟩ hs hl
  have HL := h.look s hl
  have HN := h.at_name s hs
  have HE : S.err s = if S.off = true then 7 else if mayN s = false then 1 else match findN S.fs s with | none => 4 | some _ => 0 := rfl
  have HB : S.bad s = if S.off = true then 7 else if mayN s = false then 1 else 0 := rfl
  clear h
  cases ho : S.off with
  | true =>
    rw [ho] at HE HB
    simp only [if_true] at HE HB
    rw [HB] at CC
    rw [HE]
    clear HL HN HE HB
    show Calls Try.prog 54 #[.pointer (some ⟨b, 0, none⟩), .string (strOfNums s)] w fun e w' => e = .returned (.tuple #[.pointer none, .int .i64 7]) ∧ w' = w
    go_enter Try.func54, Try.ntmps54
    go_wp2_with (go_at_call 49; refine CC.out.mono ?_; rintro e w' ⟨rfl, rfl⟩)
    go_returns
    exact ⟨rfl, rfl⟩
  | false =>
    cases hm : mayN s with
    | false =>
      rw [ho, hm] at HE HB
      simp only [if_true, Bool.false_eq_true, if_false] at HE HB
      rw [HB] at CC
      rw [HE]
      clear HL HN HE HB
      show Calls Try.prog 54 #[.pointer (some ⟨b, 0, none⟩), .string (strOfNums s)] w fun e w' => e = .returned (.tuple #[.pointer none, .int .i64 1]) ∧ w' = w
      go_enter Try.func54, Try.ntmps54
      go_wp2_with (go_at_call 49; refine CC.out.mono ?_; rintro e w' ⟨rfl, rfl⟩)
      go_returns
      exact ⟨rfl, rfl⟩
    | true =>
      rw [ho, hm] at HE HB
      simp only [Bool.true_eq_false, Bool.false_eq_true, if_false] at HE HB
      rw [HB] at CC
      rcases HN with ⟨hf, hG⟩ | ⟨i, f, g, hf, hi, hn, hG, hd⟩
      · rw [hf] at HE
        rw [hG] at HL
        rw [HE]
        replace HL : (Instr.lookup 59 (.map (some m)) (.string (strOfNums s)) false).run Try.prog w = .ok (.pointer none) w := HL
        clear HE HB hf hG
        show Calls Try.prog 54 #[.pointer (some ⟨b, 0, none⟩), .string (strOfNums s)] w fun e w' => e = .returned (.tuple #[.pointer none, .int .i64 4]) ∧ w' = w
        go_enter Try.func54, Try.ntmps54
        go_wp2_with (go_at_call 49; refine CC.out.mono ?_; rintro e w' ⟨rfl, rfl⟩)
        go_returns
        exact ⟨rfl, rfl⟩
      · rw [hf] at HE
        rw [hG] at HL
        rw [HE, hG]
        replace HL : (Instr.lookup 59 (.map (some m)) (.string (strOfNums s)) false).run Try.prog w = .ok (.pointer (some ⟨g, 0, none⟩)) w := HL
        clear HE HB hf hG hi hn hd
        show Calls Try.prog 54 #[.pointer (some ⟨b, 0, none⟩), .string (strOfNums s)] w fun e w' => e = .returned (.tuple #[.pointer (some ⟨g, 0, none⟩), .int .i64 0]) ∧ w' = w
        go_enter Try.func54, Try.ntmps54
        go_wp2_with (go_at_call 49; refine CC.out.mono ?_; rintro e w' ⟨rfl, rfl⟩)
        go_returns
        exact ⟨rfl, rfl⟩
end Go.Proofs.Ytlfmhdljldbjmaa
