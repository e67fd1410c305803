/-
  What the document's own disks (hourglassref8: ask, Size, Read, Sync, On of a Disk) answer.
-/
import Derived.Test.YtlfmhdljldbjmaaRefDisk
namespace Go.Proofs.Ytlfmhdljldbjmaa
open Go.RowKit
set_option linter.unusedVariables false

/-- The place that 'ask' tells, and the error. -/
def DS.place (S : DS) (s : List Int) : Int := if S.off = true then -1 else if mayN s = false then -1 else placeI (findN S.fs s)
set_option maxHeartbeats 1000000 in
theorem rask_any (b : Nat) (S : DS) (X : Foot) (s : List Int) (w : World) (h : DiskR w b S X) (hs : By s) (hl : s.length ≤ 1000000) :
    Calls Try.prog 51 #[.pointer (some ⟨b, 0, none⟩), .string (strOfNums s)] w fun e w' => e = .returned (.tuple #[.int .i64 (S.place s), .int .i64 (S.err s)]) ∧ w' = w := by
  have c2 := h.c2
  have CM : Hid (Calls Try.prog 43 #[.string (strOfNums s)] w fun e w' => e = .returned (.bool (mayN s)) ∧ w' = w) := rmay_any s w hs hl
  have CF : Hid (Calls Try.prog 65 #[.pointer (some ⟨b, 0, none⟩), .string (strOfNums s)] w fun e w' => e = .returned (.int .i64 (placeI (findN S.fs s))) ∧ w' = w) := rfind_any b S X s w h hs
  have HP : Hid (S.place s = if S.off = true then -1 else if mayN s = false then -1 else placeI (findN S.fs s)) := rfl
  have HE : Hid (S.err s = if S.off = true then 7 else if mayN s = false then 1 else match findN S.fs s with | none => 4 | some _ => 0) := rfl
  obtain ⟨P, hP⟩ : ∃ P, P = S.place s := ⟨_, rfl⟩
  obtain ⟨E, hE⟩ : ∃ E, E = S.err s := ⟨_, rfl⟩
  rw [← hP, ← hE]
  rw [← hP] at HP
  rw [← hE] at HE
  clear h hP hE
  cases ho : S.off with
  | true =>
    rw [ho] at c2
    obtain rfl : P = -1 := by rw [HP.out, ho]; rfl
    obtain rfl : E = 7 := by rw [HE.out, ho]; rfl
    clear HP HE
    go_enter Try.func51, Try.ntmps51
    go_wp2
    go_returns
    exact ⟨rfl, rfl⟩
  | false =>
    rw [ho] at c2
    cases hm : mayN s with
    | false =>
      rw [hm] at CM
      obtain rfl : P = -1 := by rw [HP.out, ho, hm]; rfl
      obtain rfl : E = 1 := by rw [HE.out, ho, hm]; rfl
      clear HP HE hm
      go_enter Try.func51, Try.ntmps51
      go_wp2_with (go_at_call 43; refine CM.out.mono ?_; rintro e w' ⟨rfl, rfl⟩)
      go_returns
      exact ⟨rfl, rfl⟩
    | true =>
      rw [hm] at CM
      cases hf : findN S.fs s with
      | none =>
        rw [hf] at CF
        have CF' : Hid (Calls Try.prog 65 #[.pointer (some ⟨b, 0, none⟩), .string (strOfNums s)] w fun e w' => e = .returned (.int .i64 (-1)) ∧ w' = w) := CF.out
        obtain rfl : P = -1 := by rw [HP.out, ho, hm, hf]; rfl
        obtain rfl : E = 4 := by rw [HE.out, ho, hm, hf]; rfl
        clear HP HE hm hf CF
        go_enter Try.func51, Try.ntmps51
        go_wp2_with (first | (go_at_call 43; refine CM.out.mono ?_; rintro e w' ⟨rfl, rfl⟩) | (go_at_call 65; refine CF'.out.mono ?_; rintro e w' ⟨rfl, rfl⟩))
        go_returns
        exact ⟨rfl, rfl⟩
      | some i =>
        rw [hf] at CF
        have CF' : Hid (Calls Try.prog 65 #[.pointer (some ⟨b, 0, none⟩), .string (strOfNums s)] w fun e w' => e = .returned (.int .i64 (i : Int)) ∧ w' = w) := CF.out
        obtain rfl : P = (i : Int) := by rw [HP.out, ho, hm, hf]; rfl
        obtain rfl : E = 0 := by rw [HE.out, ho, hm, hf]; rfl
        clear HP HE hm hf CF
        go_enter Try.func51, Try.ntmps51
        go_wp2_with (first | (go_at_call 43; refine CM.out.mono ?_; rintro e w' ⟨rfl, rfl⟩) | (go_at_call 65; refine CF'.out.mono ?_; rintro e w' ⟨rfl, rfl⟩))
        go_returns
        exact ⟨rfl, rfl⟩
theorem size_take (fs : List FileV) (n : Nat) (f : FileV) (h : fs[n]? = some f) : sizeN (fs.take (n + 1)) = sizeN (fs.take n) + f.b.length := by
  induction fs generalizing n with
  | nil => simp at h
  | cons g r ih =>
    cases n with
    | zero => simp at h; subst h; simp [sizeN]
    | succ n => simp [sizeN, ih n (by simpa using h)]; omega
theorem size_le (fs : List FileV) (n : Nat) : sizeN (fs.take n) ≤ sizeN fs := by
  induction fs generalizing n with
  | nil => simp [sizeN]
  | cons g r ih =>
    cases n with
    | zero => simp [sizeN]
    | succ n => simp [sizeN]; exact ih n
set_option maxHeartbeats 1000000 in
theorem rsize_any (b : Nat) (S : DS) (X : Foot) (w : World) (h : DiskR w b S X) (hz : sizeN S.fs ≤ 1099511627776) :
    Calls Try.prog 52 #[.pointer (some ⟨b, 0, none⟩)] w fun e w' => e = .returned (.int .i64 (sizeN S.fs : Nat)) ∧ w' = w := by
  obtain ⟨a, cap, c1, hcap, _, hf⟩ := h.lst
  have HF : Hid (∀ i f, S.fs[i]? = some f → ∃ g, a = some ⟨g, 0, none⟩ ∧ ∃ bb c, w.cell? ⟨g, i * 3 + 1, none⟩ = some (.slice bb f.b.length c)) := fun i f hif => by
    obtain ⟨g, e, _, _, _, hr⟩ := hf i f hif
    obtain ⟨bb, c, h1, _⟩ := hr.c1
    exact ⟨g, e, bb, c, h1⟩
  have hfew := h.few
  obtain ⟨N, hN⟩ : ∃ N, N = S.fs.length := ⟨_, rfl⟩
  have HN : Hid (N = S.fs.length) := hN
  rw [← hN] at c1 hcap hfew
  obtain ⟨R, hR⟩ : ∃ R, R = sizeN S.fs := ⟨_, rfl⟩
  have HR : Hid (R = sizeN S.fs) := hR
  rw [← hR] at hz ⊢
  clear hf h hN hR
  go_enter Try.func52, Try.ntmps52
  go_wp2
  go_loopw [3, 4] (fun nv i wr => ∃ n m : Nat, n ≤ N ∧ i = .int .i64 n ∧ nv = .int .i64 m ∧ wr = w ∧ Hid (m = sizeN (S.fs.take n)) ∧ m ≤ R) (fun _ i _ => N - (intOf i).toNat)
  case atStart => exact ⟨0, 0, Nat.zero_le _, rfl, rfl, rfl, rfl, Nat.zero_le _⟩
  case round =>
    obtain ⟨n, m, hn, rfl, rfl, rfl, HM, hmR⟩ := hrel
    by_cases hlt : n < N
    · have hnl : n < S.fs.length := by rw [← HN.out]; exact hlt
      obtain ⟨f, hfn⟩ : ∃ f, S.fs[n]? = some f := ⟨_, List.getElem?_eq_getElem hnl⟩
      obtain ⟨g, rfl, bb, c, cf⟩ := HF.out n f hfn
      have hnext := size_take S.fs n f hfn
      have hle := size_le S.fs (n + 1)
      rw [hnext, ← HM.out, ← HR.out] at hle
      rw [← HM.out] at hnext
      obtain ⟨M, hM⟩ : ∃ M, M = f.b.length := ⟨_, rfl⟩
      rw [← hM] at cf hnext hle
      have HX : Hid (sizeN (S.fs.take (n + 1)) = m + M) := hnext
      clear hfn hnext hM
      go_wp2
      exact ⟨⟨n + 1, m + M, by omega, by simp, by simp, trivial, HX.out.symm, hle⟩, by simp [intOf]; omega⟩
    · obtain rfl : n = N := by omega
      have e : m = R := by rw [HM.out, HR.out, HN.out, List.take_length]
      subst e
      go_wp2
      go_ret
      exact ⟨rfl, rfl⟩
end Go.Proofs.Ytlfmhdljldbjmaa
