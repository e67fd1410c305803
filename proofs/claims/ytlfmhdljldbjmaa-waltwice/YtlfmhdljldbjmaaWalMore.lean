/-
  Records that are added one after another, some of them safe, behind a crash (beneath WalCrash).
-/
import Derived.Test.YtlfmhdljldbjmaaWalPlay
namespace Go.Proofs.Ytlfmhdljldbjmaa
open Go.RowKit
set_option linter.unusedVariables false
theorem frames_bound (R : List (List Int)) (m : Nat) (h : ∀ r ∈ R, r.length ≤ m) : (frames R).length ≤ R.length * (12 + m) := by
  induction R with
  | nil => simp [frames]
  | cons r q ih =>
    have h1 := ih (fun x hx => h x (by simp [hx]))
    have h2 := h r (by simp)
    rw [frames_cons, List.length_append, frame_len]
    simp only [List.length_cons, Nat.succ_mul]
    omega
theorem rows_by {w : World} {a : Option Addr} {cap : Nat} {R : List (List Int)} (h : RowsOf w a cap R) : ∀ r ∈ R, By r := by
  intro r hr
  obtain ⟨i, hi, rfl⟩ := List.mem_iff_getElem.1 hr
  obtain ⟨rb, ro, x, xc, _, _, hrx, _⟩ := h.at hi
  have hb := hrx.bytes
  have he : R.getD i [] = R[i] := by simp [List.getD, hi]
  rw [he] at hb
  exact hb
theorem crashB_len (B : List Int) (sf keep : Nat) (torn : Int) (h : sf ≤ B.length) : (crashB B sf keep torn).length ≤ B.length := by
  unfold crashB crashF
  simp only
  split
  · simp; omega
  · simp; omega
def sfW (z : List (List Int)) (s i : Nat) : Nat := if s ≤ i then (frames (z.take s)).length else 0
def lsW (s i : Nat) : Nat := if s ≤ i then s else 0
def stD (z : List (List Int)) (s i : Nat) : DS := if i = 0 then newDS 20000 else oneF 20000 1 [119] (frames (z.take i)) (sfW z s i)
def stL (z : List (List Int)) (s i : Nat) : LS := ⟨[119], 1, false, z.take i, lsW s i⟩
def stA (z : List (List Int)) (s i : Nat) : DS := oneF 20000 1 [119] (frames (z.take (i + 1))) (sfW z s i)
def stB (z : List (List Int)) (s i : Nat) : LS := ⟨[119], 1, false, z.take (i + 1), lsW s i⟩
theorem st_zero (z : List (List Int)) (s : Nat) : stD z s 0 = newDS 20000 ∧ stL z s 0 = ⟨[119], 1, false, [], 0⟩ := by
  unfold stD stL lsW
  refine ⟨rfl, ?_⟩
  rw [List.take_zero]
  split
  · rw [show s = 0 by omega]
  · rfl
theorem st_add (z : List (List Int)) (s i : Nat) (r : List Int) (hz : z[i]? = some r) (hr : r.length ≤ 300) (hall : ∀ x ∈ z.take i, x.length ≤ 300) (hi : i < 20) : addL (stD z s i) (stL z s i) [r] = (0, stA z s i, stB z s i) := by
  have hr8 : ∀ x ∈ [r], x.length ≤ 8000 := fun x hx => by simp at hx; subst hx; omega
  have hb := frames_bound (z.take i) 300 hall
  have hl : (z.take i).length ≤ i := List.length_take_le _ _
  have hfr : (frames [r]).length = 12 + r.length := by rw [frames_size]; simp
  have ht : z.take (i + 1) = z.take i ++ [r] := by rw [List.take_add_one, hz]; rfl
  unfold stD stA stB
  by_cases h0 : i = 0
  · subst h0
    have s0 : sfW z s 0 = 0 := by
      unfold sfW
      split
      · rw [show s = 0 by omega]; simp [frames]
      · rfl
    have l0 : lsW s 0 = 0 := by unfold lsW; split <;> omega
    have e := addL_new 20000 [119] [r] may_w hr8 (by omega)
    rw [if_pos rfl, s0, l0, ht, (st_zero z s).2, List.take_zero, List.nil_append]
    exact e
  · unfold stL
    rw [if_neg h0, ht]
    exact addL_one 20000 1 [119] (z.take i) [r] _ _ may_w hr8 (by omega)
theorem st_next (z : List (List Int)) (s i : Nat) (h : i + 1 ≠ s) : stA z s i = stD z s (i + 1) ∧ stB z s i = stL z s (i + 1) := by
  have e : (s ≤ i) = (s ≤ i + 1) := propext (by omega)
  unfold stA stB stD stL sfW lsW
  rw [if_neg (show ¬ i + 1 = 0 by omega)]
  simp only [e, and_self]
theorem st_sync (z : List (List Int)) (s i : Nat) (h : i + 1 = s) (hi : i < z.length) : syncL (stA z s i) (stB z s i) = (0, stD z s (i + 1), stL z s (i + 1)) := by
  subst h
  have e := syncL_one 20000 1 [119] (frames (z.take (i + 1))) (z.take (i + 1)) (sfW z (i + 1) i) (lsW (i + 1) i) may_w
  unfold stA stB
  rw [e]
  unfold stD stL
  rw [if_neg (by omega)]
  have e1 : sfW z (i + 1) (i + 1) = (frames (z.take (i + 1))).length := by unfold sfW; rw [if_pos (Nat.le_refl _)]
  have e2 : lsW (i + 1) (i + 1) = (z.take (i + 1)).length := by unfold lsW; rw [if_pos (Nat.le_refl _), List.length_take]; omega
  rw [e1, e2]
theorem st_size (z : List (List Int)) (s i : Nat) (hall : ∀ x ∈ z.take i, x.length ≤ 300) (hi : i ≤ 20) : sizeN (stD z s i).fs ≤ 1048576 ∧ (stD z s i).room = 20000 ∧ (stD z s i).fs.length ≤ 1 ∧ (stD z s i).off = false ∧ (stD z s i).lives = 1 := by
  have hb := frames_bound (z.take i) 300 hall
  have hl : (z.take i).length ≤ i := List.length_take_le _ _
  unfold stD
  split
  · simp [newDS, sizeN]
  · simp [oneF, sizeN]
    omega
theorem none_add : addL ⟨20000, [], false, 2⟩ ⟨[119], 2, false, [], 0⟩ [[122]] = (0, oneF 20000 2 [119] (frames [[122]]) 0, ⟨[119], 2, false, [[122]], 0⟩) := by
  have ea : (⟨20000, [], false, 2⟩ : DS).append [119] (frames [[122]]) = (0, oneF 20000 2 [119] (frames [[122]]) 0) := by
    unfold DS.append
    simp only [may_w]
    rw [if_neg (by simp), if_neg (by simp), if_neg (by simp [sizeN, frames_size])]
    rfl
  unfold addL
  rw [if_neg (by simp [offN]), if_neg (by rw [all_short [[122]] (fun r hr => by simp at hr; subst hr; simp)]; simp), ea]
  simp
/-- All that Open finds behind the crash, and that it may be added to. -/
theorem st_end (z : List (List Int)) (s n : Nat) (hn : z.length = n) (hs : s ≤ n) (hb : ∀ r ∈ z, By r) (h300 : ∀ r ∈ z, r.length ≤ 300) (h20 : n ≤ 20) (keep torn : Int) (ht : 0 ≤ torn ∧ torn ≤ 255) :
    ∃ k S l S' l', s ≤ k ∧ k ≤ n ∧ (((stD z s n).crash keep torn).on).opened [119] = S ∧ (((stD z s n).crash keep torn).on).log [119] = l ∧ l.L = z.take k ∧ l.safe = k ∧ offN S l = false ∧ addL S l [[122]] = (0, S', l') ∧ l'.L.length = k + 1 ∧ sizeN S.fs ≤ 1048576 ∧ S.room = 20000 ∧ S.fs.length ≤ 1 ∧ sizeN (((stD z s n).crash keep torn).on).fs ≤ 1048576 := by
  have h8 : ∀ r ∈ z, r.length ≤ 8000 := fun r hr => by have := h300 r hr; omega
  by_cases h0 : n = 0
  · subst h0
    obtain rfl : z = [] := List.length_eq_zero_iff.1 hn
    obtain rfl : s = 0 := by omega
    refine ⟨0, ⟨20000, [], false, 2⟩, ⟨[119], 2, false, [], 0⟩, _, _, Nat.le_refl _, Nat.le_refl _, rfl, rfl, rfl, rfl, rfl, none_add, rfl, ?_, rfl, Nat.zero_le _, ?_⟩
    · simp [sizeN]
    · simp [stD, DS.crash, DS.on, newDS, sizeN]
  · have e1 : stD z s n = oneF 20000 1 [119] (frames z) (frames (z.take s)).length := by
      unfold stD sfW
      rw [if_neg h0, if_pos hs, ← hn, List.take_length]
    rw [e1]
    obtain ⟨k, k1, k2, o1, o2⟩ := open_crash 20000 1 [119] z hb h8 s (by omega) keep torn ht
    have hkb := frames_bound (z.take k) 300 (fun r hr => h300 r (List.mem_of_mem_take hr))
    have hkl : (z.take k).length = k := by rw [List.length_take]; omega
    have hzb := frames_bound z 300 h300
    have hsl : (frames (z.take s)).length ≤ (frames z).length := by
      have := frames_mono z s z.length (by omega)
      rwa [List.take_length] at this
    refine ⟨k, _, _, oneF 20000 2 [119] (frames (z.take k ++ [[122]])) (frames (z.take k)).length, ⟨[119], 2, false, z.take k ++ [[122]], k⟩, k1, by omega, o1, o2, rfl, rfl, off_one _ _ _ _ _ _ _, addL_one 20000 2 [119] (z.take k) [[122]] _ _ may_w (fun r hr => by simp at hr; subst hr; simp) ?_, ?_, ?_, rfl, ?_, ?_⟩
    · rw [hkl] at hkb
      have : (frames [[(122 : Int)]]).length = 13 := by rw [frames_size]; simp
      omega
    · simp [hkl]
    · rw [hkl] at hkb; simp [oneF, sizeN]; omega
    · simp [oneF]
    · rw [crash_one]
      have h1 := crashB_len (frames z) (frames (z.take s)).length keep.toNat torn hsl
      simp [oneF, sizeN]
      omega
theorem RowsOf.at2 {w : World} {a : Option Addr} {cap : Nat} {ls : List (List Int)} (h : RowsOf w a cap ls) {r : Nat} (hr : r < ls.length) :
    ∃ b off x c, a = some ⟨b, off, none⟩ ∧ w.cell? ⟨b, off + r, none⟩ = some (.slice x (ls.getD r []).length c) ∧ Row w x (ls.getD r []) ∧ (x = none → c = 0) ∧ (ls.getD r []).length ≤ c := by
  rcases h.cells with h0 | ⟨b, off, rfl, hc⟩
  · rw [h0] at hr; simp at hr
  · obtain ⟨x, c, h1, h2, h3, h4⟩ := hc r hr
    exact ⟨b, off, x, c, rfl, h1, h2, h3, h4⟩
/-- One record that came in, in a list made for one call. -/
theorem rows_one (u0 u' : World) (x : Option Addr) (rn xc : Nat) (r : List Int) (hrl : r.length = rn) (hrow : Row u' x r) (hx : x = none → xc = 0) (hxc : rn ≤ xc) (X Z : Foot) (hX : ∀ k, X k → k < u0.heap.size) (hZ : ∀ k, Z k → k < u0.heap.size)
    (h : ∀ k, (u0.alloc (.cells #[.slice x rn xc] 31)).heap[k]? ≠ none → ¬ X k → ¬ Z k → u'.heap[k]? = (u0.alloc (.cells #[.slice x rn xc] 31)).heap[k]?) : RowsOf u' (some ⟨u0.heap.size, 0, none⟩) 1 [r] := by
  have g1 : (u0.alloc (.cells #[.slice x rn xc] 31)).cell? ⟨u0.heap.size, 0, none⟩ = some (.slice x rn xc) := by
    rw [World.cell?_alloc_new u0 #[.slice x rn xc] 31 0]; rfl
  have e1 := h u0.heap.size (fun e => by have := cell_lt g1; rw [Array.getElem?_eq_none_iff] at e; omega) (fun x => by have := hX _ x; omega) (fun x => by have := hZ _ x; omega)
  refine ⟨(fun e => by cases e), Nat.le_refl _, .inr ⟨_, _, rfl, fun q hq => ?_⟩⟩
  obtain rfl : q = 0 := by simp at hq; omega
  refine ⟨x, xc, ?_, hrow, hx, ?_⟩
  · show _ = some (Value.slice x r.length xc)
    rw [hrl]
    exact (cell_kept e1 _).trans g1
  · show r.length ≤ xc
    omega
/-- Add of one record that came in. -/
theorem lt_add1 (w u : World) (p b : Nat) (S : DS) (l : LS) (X Z : Foot) (x : Option Addr) (rn xc : Nat) (r : List Int) (h : LT w u p b S l X Z) (hrl : r.length = rn) (hrow : ∀ u', Below w.heap.size w u' → Row u' x r) (hx : x = none → xc = 0) (hxc : rn ≤ xc) (hz : sizeN S.fs ≤ 1048576) (hroom : 0 ≤ S.room ∧ S.room ≤ 1048576) (hfl : S.fs.length + 1 ≤ 1000) (hLn : l.L.length + 1 ≤ 1000000) (S' : DS) (l' : LS) (E : Int) (he : addL S l [r] = (E, S', l')) :
    Calls Try.prog 12 #[.pointer (some ⟨p, 0, none⟩), .slice (some ⟨u.heap.size, 0, none⟩) 1 1] (u.alloc (.cells #[.slice x rn xc] 31)) fun e w' => ∃ X' Z', e = .returned (.int .i64 E) ∧ LT w w' p b S' l' X' Z' :=
  lt_add w _ p b S l X Z _ 1 1 [r] (h.past ((Below.refl _ _).alloc (Nat.le_refl _) _)) rfl (fun u' hb hk => rows_one u u' x rn xc r hrl (hrow u' hb) hx hxc X Z (fun k y => h.pd.disk.lt k y) (fun k y => h.pd.log.lt k y) hk) (by omega) hz hroom hfl hLn S' l' E he
end Go.Proofs.Ytlfmhdljldbjmaa
