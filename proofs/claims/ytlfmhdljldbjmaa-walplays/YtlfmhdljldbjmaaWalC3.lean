/-
  What framed, keep of the landed logs answer and leave.
-/
import Derived.Test.YtlfmhdljldbjmaaWalC2
import Derived.Test.YtlfmhdljldbjmaaFrameC
import Derived.Test.YtlfmhdljldbjmaaRegLast
import Derived.Laws.AppendOwn
namespace Go.Proofs.Ytlfmhdljldbjmaa
open Go.RowKit
set_option linter.unusedVariables false

theorem put_longer (a : Option Addr) (cap n : Nat) (a' : Option Addr) (cap' m : Nat) (w : World) (hm : 8000 < m) :
    Calls Try.prog 60 #[.slice a n cap, .slice a' m cap'] w fun e w' => ∃ ax cx, e = .returned (.tuple #[.slice ax 0 cx, .int .i64 2]) ∧ Below w.heap.size w w' := by
  go_enter Try.func60, Try.ntmps60
  have h1 : (8000 : Int) < (m : Int) := by omega
  go_wp2
  go_ret2
  exact ⟨_, _, rfl, Below.refl _ _⟩
theorem wframes_take (R : List (List Int)) (i : Nat) (r : List Int) (h : R[i]? = some r) : frames (R.take (i + 1)) = frames (R.take i) ++ frameN r := by
  rw [List.take_add_one, h]
  simp [frames]
set_option maxHeartbeats 2000000 in
set_option maxRecDepth 4000 in
theorem wframed_ok (a : Option Addr) (cap n : Nat) (R : List (List Int)) (w : World) (hRn : R.length = n) (hR : RowsOf w a cap R) (hfew : n ≤ 1000) (hs : ∀ r ∈ R, r.length ≤ 8000) :
    Calls Try.prog 40 #[.slice a n cap] w fun e w' => ∃ ax m cx, e = .returned (.tuple #[.slice ax m cx, .int .i64 0]) ∧ w'.ownsRow w.heap.size 5 1 (.slice ax m cx) m (bs (frames R)) ∧ Below w.heap.size w w' ∧ m ≤ n * 8012 := by
  have HRO : Hid (RowsOf w a cap R) := hR
  have HRN : Hid (R.length = n) := hRn
  have HS : Hid (∀ r ∈ R, r.length ≤ 8000) := hs
  clear hR hRn hs
  go_enter Try.func40, Try.ntmps40
  go_wp2
  go_loopw [4, 11] (fun bv iv wr => ∃ (i m : Nat) (ax : Option Addr) (cx : Nat), iv = .int .i64 i ∧ bv = .slice ax m cx ∧ i ≤ n ∧ m ≤ i * 8012 ∧ Hid (wr.ownsRow w.heap.size 5 1 (.slice ax m cx) m (bs (frames (R.take i)))) ∧ Hid (Below w.heap.size w wr) ∧ Hid (∀ r ∈ R.take i, By r)) (fun _ iv _ => n - (intOf iv).toNat)
  case atStart => exact ⟨0, 0, none, 0, rfl, rfl, Nat.zero_le _, Nat.zero_le _, World.ownsRow_nil _ _ _ _, Below.refl _ _, fun r hr => by simp at hr⟩
  case round =>
    obtain ⟨i, m, ax, cx, rfl, rfl, hi, hm, HO, HBR, HTK⟩ := hrel
    by_cases hlt : i < n
    · have hil : i < R.length := by rw [HRN.out]; exact hlt
      obtain ⟨rb, ro, x, xc, hra, hcl, hrx, hnx⟩ := ((HRO.out.below HBR.out (Nat.le_refl _)).at hil)
      subst hra
      obtain ⟨RS, hRS⟩ : ∃ RS, RS = R.getD i [] := ⟨_, rfl⟩
      rw [← hRS] at hcl hrx hnx
      have HRS : Hid (R[i]? = some RS) := by show _ = _; rw [hRS]; simp [List.getD, hil]
      obtain ⟨rn, hrn⟩ : ∃ rn, rn = RS.length := ⟨_, rfl⟩
      have HRL : Hid (RS.length = rn) := hrn.symm
      have HRX : Hid (Row wr x RS) := hrx
      have HNX : Hid (x = none → rn = 0 ∧ xc = 0) := fun e => by have := hnx e; exact ⟨by omega, this.2⟩
      have h8 : rn ≤ 8000 := by rw [hrn]; exact HS.out RS (List.mem_of_getElem? HRS.out)
      rw [← hrn] at hcl
      clear hrx hnx hRS hrn
      have CF : Hid (Calls Try.prog 60 #[.slice none 0 0, .slice x rn xc] wr fun e w' => ∃ ay cy, e = .returned (.tuple #[.slice ay (12 + rn) cy, .int .i64 0]) ∧ w'.ownsRow wr.heap.size 5 1 (.slice ay (12 + rn) cy) (12 + rn) (bs (frameN RS)) ∧ Below wr.heap.size wr w') := by
        have h0 := put_ok none 0 [] 0 x xc RS rn wr rfl HRL.out (Row.nil _ _) HRX.out (fun _ => ⟨rfl, rfl⟩) HNX.out h8 (by omega)
        rw [Nat.zero_add, List.nil_append] at h0
        exact h0
      have HFB : Hid (By (frameN RS)) := frame_by RS HRX.out.bytes
      have HFL : Hid ((frameN RS).length = 12 + rn) := by show _ = _; rw [frame_len, HRL.out]
      have HXS : Hid (∀ z ∈ frames (R.take i), 0 ≤ z ∧ z ≤ 255) := frames_by _ (fun r hr => HTK.out r hr)
      go_wp2_with (first | (go_at_call 60; refine CF.out.mono ?_; rintro e w3 ⟨ay, cy, rfl, h1, h2⟩; have O3 : Hid (w3.ownsRow wr.heap.size 5 1 (.slice ay (12 + rn) cy) (12 + rn) (bs (frameN RS))) := h1; have B3 : Hid (Below wr.heap.size wr w3) := h2; clear h1 h2) | (at_builtin; refine wpList_append_on rfl (.tmp 23) (.tmp 24) rfl w.heap.size w (HBR.out.trans (B3.out.mono HBR.out.size)) (Nat.le_trans HBR.out.size B3.out.size) _ m (frames (R.take i)) (frameN RS) rfl (own_below HO.out B3.out (Nat.le_refl _)) _ _ _ rfl (own_row O3.out HFB.out) HFL.out (own_nil O3.out) HXS.out (by omega) ?_; intro a4 c4 w4 h1 h2; have O4 : Hid (w4.ownsRow w.heap.size 5 1 (.slice a4 (m + (12 + rn)) c4) (m + (12 + rn)) (bs (frames (R.take i) ++ frameN RS))) := h1; have B4 : Hid (Below w.heap.size w w4) := h2; clear h1 h2))
      go_roundw
      case rel =>
        refine ⟨i + 1, m + (12 + rn), a4, c4, by simp, rfl, by omega, by omega, ?_, B4.out, fun r hr => ?_⟩
        · rw [wframes_take R i RS HRS.out]; exact O4.out
        · rw [List.take_add_one, HRS.out] at hr
          rcases List.mem_append.1 hr with hr | hr
          · exact HTK.out r hr
          · simp at hr
            subst hr
            exact HRX.out.bytes
      case measure => simp [intOf]; omega
    · have hin : i = n := by omega
      have HTA : Hid (R.take i = R) := by show _ = _; rw [hin, ← HRN.out, List.take_length]
      have hml : m ≤ n * 8012 := by rw [← hin]; exact hm
      rw [HTA.out] at HO
      have bN : decide ((i : Int) < (n : Int)) = false := decide_eq_false (by omega)
      clear hin
      go_wp2
      go_returns
      exact ⟨ax, m, cx, rfl, HO.out, HBR.out, hml⟩
theorem long_first (R : List (List Int)) (h : R.all (fun r => decide (r.length ≤ 8000)) = false) : ∃ k r, R[k]? = some r ∧ 8000 < r.length ∧ ∀ q ∈ R.take k, q.length ≤ 8000 := by
  induction R with
  | nil => simp at h
  | cons r q ih =>
    by_cases hr : r.length ≤ 8000
    · have h2 : q.all (fun r => decide (r.length ≤ 8000)) = false := by
        rw [List.all_cons] at h
        simpa [hr] using h
      obtain ⟨k, s, e1, e2, e3⟩ := ih h2
      refine ⟨k + 1, s, by simpa using e1, e2, fun x hx => ?_⟩
      rw [List.take_succ_cons] at hx
      rcases List.mem_cons.1 hx with e | e
      · rw [e]; exact hr
      · exact e3 x e
    · exact ⟨0, r, rfl, by omega, fun x hx => by simp at hx⟩
set_option maxHeartbeats 2000000 in
set_option maxRecDepth 4000 in
theorem wframed_long (a : Option Addr) (cap n : Nat) (R : List (List Int)) (w : World) (hRn : R.length = n) (hR : RowsOf w a cap R) (hfew : n ≤ 1000) (hs : R.all (fun r => decide (r.length ≤ 8000)) = false) :
    Calls Try.prog 40 #[.slice a n cap] w fun e w' => e = .returned (.tuple #[.slice none 0 0, .int .i64 2]) ∧ Below w.heap.size w w' := by
  have HRO : Hid (RowsOf w a cap R) := hR
  have HRN : Hid (R.length = n) := hRn
  obtain ⟨k, rk, e1, e2, e3⟩ := long_first R hs
  have hkn : k < n := by rw [← hRn]; exact (List.getElem?_eq_some_iff.1 e1).1
  have HK : Hid (R[k]? = some rk ∧ 8000 < rk.length) := ⟨e1, e2⟩
  have HS : Hid (∀ q ∈ R.take k, q.length ≤ 8000) := e3
  clear hR hRn hs e1 e2 e3
  go_enter Try.func40, Try.ntmps40
  go_wp2
  go_loopw [4, 11] (fun bv iv wr => ∃ (i m : Nat) (ax : Option Addr) (cx : Nat), iv = .int .i64 i ∧ bv = .slice ax m cx ∧ i ≤ k ∧ m ≤ i * 8012 ∧ Hid (wr.ownsRow w.heap.size 5 1 (.slice ax m cx) m (bs (frames (R.take i)))) ∧ Hid (Below w.heap.size w wr) ∧ Hid (∀ r ∈ R.take i, By r)) (fun _ iv _ => n - (intOf iv).toNat)
  case atStart => exact ⟨0, 0, none, 0, rfl, rfl, Nat.zero_le _, Nat.zero_le _, World.ownsRow_nil _ _ _ _, Below.refl _ _, fun r hr => by simp at hr⟩
  case round =>
    obtain ⟨i, m, ax, cx, rfl, rfl, hi, hm, HO, HBR, HTK⟩ := hrel
    have hlt : i < n := by omega
    have hil : i < R.length := by rw [HRN.out]; exact hlt
    obtain ⟨rb, ro, x, xc, hra, hcl, hrx, hnx⟩ := ((HRO.out.below HBR.out (Nat.le_refl _)).at hil)
    subst hra
    obtain ⟨RS, hRS⟩ : ∃ RS, RS = R.getD i [] := ⟨_, rfl⟩
    rw [← hRS] at hcl hrx hnx
    have HRS : Hid (R[i]? = some RS) := by show _ = _; rw [hRS]; simp [List.getD, hil]
    obtain ⟨rn, hrn⟩ : ∃ rn, rn = RS.length := ⟨_, rfl⟩
    have HRL : Hid (RS.length = rn) := hrn.symm
    have HRX : Hid (Row wr x RS) := hrx
    have HNX : Hid (x = none → rn = 0 ∧ xc = 0) := fun e => by have := hnx e; exact ⟨by omega, this.2⟩
    rw [← hrn] at hcl
    clear hrx hnx hRS hrn
    by_cases hik : i < k
    · have h8 : rn ≤ 8000 := by
        rw [← HRL.out]
        refine HS.out RS (List.mem_of_getElem? (i := i) ?_)
        rw [List.getElem?_take_of_lt hik]; exact HRS.out
      have CF : Hid (Calls Try.prog 60 #[.slice none 0 0, .slice x rn xc] wr fun e w' => ∃ ay cy, e = .returned (.tuple #[.slice ay (12 + rn) cy, .int .i64 0]) ∧ w'.ownsRow wr.heap.size 5 1 (.slice ay (12 + rn) cy) (12 + rn) (bs (frameN RS)) ∧ Below wr.heap.size wr w') := by
        have h0 := put_ok none 0 [] 0 x xc RS rn wr rfl HRL.out (Row.nil _ _) HRX.out (fun _ => ⟨rfl, rfl⟩) HNX.out h8 (by omega)
        rw [Nat.zero_add, List.nil_append] at h0
        exact h0
      have HFB : Hid (By (frameN RS)) := frame_by RS HRX.out.bytes
      have HFL : Hid ((frameN RS).length = 12 + rn) := by show _ = _; rw [frame_len, HRL.out]
      have HXS : Hid (∀ z ∈ frames (R.take i), 0 ≤ z ∧ z ≤ 255) := frames_by _ (fun r hr => HTK.out r hr)
      go_wp2_with (first | (go_at_call 60; refine CF.out.mono ?_; rintro e w3 ⟨ay, cy, rfl, h1, h2⟩; have O3 : Hid (w3.ownsRow wr.heap.size 5 1 (.slice ay (12 + rn) cy) (12 + rn) (bs (frameN RS))) := h1; have B3 : Hid (Below wr.heap.size wr w3) := h2; clear h1 h2) | (at_builtin; refine wpList_append_on rfl (.tmp 23) (.tmp 24) rfl w.heap.size w (HBR.out.trans (B3.out.mono HBR.out.size)) (Nat.le_trans HBR.out.size B3.out.size) _ m (frames (R.take i)) (frameN RS) rfl (own_below HO.out B3.out (Nat.le_refl _)) _ _ _ rfl (own_row O3.out HFB.out) HFL.out (own_nil O3.out) HXS.out (by omega) ?_; intro a4 c4 w4 h1 h2; have O4 : Hid (w4.ownsRow w.heap.size 5 1 (.slice a4 (m + (12 + rn)) c4) (m + (12 + rn)) (bs (frames (R.take i) ++ frameN RS))) := h1; have B4 : Hid (Below w.heap.size w w4) := h2; clear h1 h2))
      go_roundw
      case rel =>
        refine ⟨i + 1, m + (12 + rn), a4, c4, by simp, rfl, by omega, by omega, ?_, B4.out, fun r hr => ?_⟩
        · rw [wframes_take R i RS HRS.out]; exact O4.out
        · rw [List.take_add_one, HRS.out] at hr
          rcases List.mem_append.1 hr with hr | hr
          · exact HTK.out r hr
          · simp at hr
            subst hr
            exact HRX.out.bytes
      case measure => simp [intOf]; omega
    · have hin : i = k := by omega
      have h8 : 8000 < rn := by
        have hq := HRS.out
        rw [hin, HK.out.1] at hq
        injection hq with hq
        rw [← HRL.out, ← hq]
        exact HK.out.2
      have CF : Hid (Calls Try.prog 60 #[.slice none 0 0, .slice x rn xc] wr fun e w' => ∃ ay cy, e = .returned (.tuple #[.slice ay 0 cy, .int .i64 2]) ∧ Below wr.heap.size wr w') := put_longer none 0 0 x xc rn wr h8
      clear hin
      go_wp2_with (go_at_call 60; refine CF.out.mono ?_; rintro e w3 ⟨ay, cy, rfl, h2⟩; have B3 : Hid (Below wr.heap.size wr w3) := h2; clear h2)
      go_returns
      exact ⟨rfl, HBR.out.trans (B3.out.mono HBR.out.size)⟩
end Go.Proofs.Ytlfmhdljldbjmaa
