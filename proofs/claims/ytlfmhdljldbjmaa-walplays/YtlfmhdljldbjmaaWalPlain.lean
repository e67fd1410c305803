/-
  Plain facts on chapters 8 and 9 where a disk has one file alone. No program is named here.
-/
import Derived.Test.YtlfmhdljldbjmaaBase
namespace Go.Proofs.Ytlfmhdljldbjmaa
open Go.RowKit
set_option linter.unusedVariables false

/-- A disk with one file. -/
def oneF (room lives : Int) (nm B : List Int) (sf : Nat) : DS := ⟨room, [⟨nm, B, sf⟩], false, lives⟩
theorem find_one (nm B : List Int) (sf : Nat) : findN [⟨nm, B, sf⟩] nm = some 0 := by simp [findN]
theorem append_new (room : Int) (nm b : List Int) (hm : mayN nm = true) (h : (b.length : Int) ≤ room) : (newDS room).append nm b = (0, oneF room 1 nm b 0) := by
  unfold DS.append newDS
  simp only [hm]
  rw [if_neg (by simp), if_neg (by simp), if_neg (by simp [sizeN]; omega)]
  rfl
theorem append_full (room : Int) (nm b : List Int) (hm : mayN nm = true) (h : room < (b.length : Int)) : (newDS room).append nm b = (6, newDS room) := by
  unfold DS.append newDS
  simp only [hm]
  rw [if_neg (by simp), if_neg (by simp), if_pos (by simp [sizeN]; omega)]
theorem append_one (room lives : Int) (nm B b : List Int) (sf : Nat) (hm : mayN nm = true) (h : (B.length : Int) + (b.length : Int) ≤ room) : (oneF room lives nm B sf).append nm b = (0, oneF room lives nm (B ++ b) sf) := by
  unfold DS.append oneF
  simp only [hm, find_one]
  rw [if_neg (by simp), if_neg (by simp), if_neg (by simp [sizeN]; omega)]
  rfl
theorem err_one (room lives : Int) (nm B : List Int) (sf : Nat) (hm : mayN nm = true) : (oneF room lives nm B sf).err nm = 0 := by
  unfold DS.err oneF
  simp only [hm, find_one]
  simp
theorem sync_one (room lives : Int) (nm B : List Int) (sf : Nat) (hm : mayN nm = true) : (oneF room lives nm B sf).sync nm = (0, oneF room lives nm B B.length) := by
  unfold DS.sync
  rw [if_pos (err_one room lives nm B sf hm)]
  simp only [oneF, find_one]
  rfl
theorem cut_one (room lives : Int) (nm B : List Int) (sf : Nat) (hm : mayN nm = true) : (oneF room lives nm B sf).cut nm 0 = (0, oneF room lives nm [] 0) := by
  have hfi : findN (oneF room lives nm B sf).fs nm = some 0 := find_one nm B sf
  unfold DS.cut
  rw [if_pos (err_one room lives nm B sf hm), hfi]
  dsimp only
  rw [if_neg (by omega)]
  simp [oneF, fileAt, setF]
theorem sync_new (room : Int) (nm : List Int) (hm : mayN nm = true) : (newDS room).sync nm = (4, newDS room) := by
  unfold DS.sync DS.err newDS
  simp [hm, findN]
/-- What a crash leaves of records of which some are safe: whole ones, at least those, and an end that is none. -/
def crashB (B : List Int) (sf keep : Nat) (torn : Int) : List Int := (crashF keep torn ⟨[], B, sf⟩).b
theorem crash_one (room lives : Int) (nm B : List Int) (sf : Nat) (keep torn : Int) : ((oneF room lives nm B sf).crash keep torn).on = oneF room (lives + 1) nm (crashB B sf keep.toNat torn) (crashB B sf keep.toNat torn).length := by
  unfold DS.crash DS.on oneF crashB crashF
  rfl
theorem opened_one (room lives : Int) (nm B : List Int) (sf : Nat) : (oneF room lives nm B sf).opened nm = oneF room lives nm (B.take (scanN B).2.1) (scanN B).2.1 := by
  unfold DS.opened oneF
  simp only [find_one]
  rfl
theorem log_one (room lives : Int) (nm B : List Int) (sf : Nat) : (oneF room lives nm B sf).log nm = ⟨nm, lives, false, (scanN B).1, (scanN B).1.length⟩ := by
  unfold DS.log oneF
  simp only [find_one]
  rfl
theorem log_new (room : Int) (nm : List Int) : (newDS room).log nm = ⟨nm, 1, false, [], 0⟩ := rfl
theorem opened_new (room : Int) (nm : List Int) : (newDS room).opened nm = newDS room := rfl
theorem frames_size (R : List (List Int)) : (frames R).length = (R.map (fun r => 12 + r.length)).sum := by
  induction R with
  | nil => rfl
  | cons r q ih => rw [frames_cons, List.length_append, frame_len, ih]; simp
/-- Where a cut falls among frames: so many are whole. -/
theorem cut_place (L : List (List Int)) : ∀ c, c ≤ (frames L).length → ∃ k, k ≤ L.length ∧ (frames (L.take k)).length ≤ c ∧ (k < L.length → c < (frames (L.take (k + 1))).length) := by
  induction L with
  | nil => intro c hc; exact ⟨0, by simp, by simp [frames], fun h => by simp at h⟩
  | cons r q ih =>
    intro c hc
    rw [frames_cons, List.length_append] at hc
    by_cases h : c < (frameN r).length
    · refine ⟨0, by simp, by simp [frames], fun _ => ?_⟩
      simp [frames]
      exact h
    · obtain ⟨k, k1, k2, k3⟩ := ih (c - (frameN r).length) (by omega)
      refine ⟨k + 1, by simp; exact k1, ?_, fun hk => ?_⟩
      · rw [List.take_succ_cons, frames_cons, List.length_append]; omega
      · have := k3 (by simpa using hk)
        rw [List.take_succ_cons, frames_cons, List.length_append]; omega
theorem frames_split (L : List (List Int)) (k : Nat) : frames L = frames (L.take k) ++ frames (L.drop k) := by rw [← frames_app, List.take_append_drop]
theorem xorB_ne (x y : Int) (hx : 0 ≤ x ∧ x ≤ 255) (hy : 0 ≤ y ∧ y ≤ 255) (h : y ≠ 0) : xorB x y ≠ x := by
  intro e
  unfold xorB at e
  have e2 : x.toNat ^^^ y.toNat = x.toNat := by omega
  have e3 : y.toNat = 0 := by
    have h1 : x.toNat ^^^ (x.toNat ^^^ y.toNat) = x.toNat ^^^ x.toNat := by rw [e2]
    rw [← Nat.xor_assoc, Nat.xor_self, Nat.zero_xor] at h1
    exact h1
  omega
/-- Frames cut off anywhere, and a spoilt byte behind the cut or none: just the whole ones are read. -/
theorem scan_cut (L : List (List Int)) (hL : ∀ r ∈ L, By r) (h8 : ∀ r ∈ L, r.length ≤ 8000) (c : Nat) (hc : c ≤ (frames L).length) (t : List Int) (ht : t = [] ∨ ∃ x, t = [x] ∧ c < (frames L).length ∧ 0 ≤ x ∧ x ≤ 255 ∧ x ≠ (frames L)[c]?.getD 0) :
    ∃ k, k ≤ L.length ∧ (frames (L.take k)).length ≤ c ∧ (k < L.length → c < (frames (L.take (k + 1))).length) ∧ (scanN ((frames L).take c ++ t)).1 = L.take k ∧ (scanN ((frames L).take c ++ t)).2.1 = (frames (L.take k)).length := by
  obtain ⟨k, k1, k2, k3⟩ := cut_place L c hc
  refine ⟨k, k1, k2, k3, ?_⟩
  have hsp := frames_split L k
  obtain ⟨m, hm⟩ : ∃ m, c = (frames (L.take k)).length + m := ⟨c - (frames (L.take k)).length, by omega⟩
  have htk : (frames L).take c = frames (L.take k) ++ (frames (L.drop k)).take m := by
    rw [hsp, hm, List.take_append, List.take_of_length_le (by omega)]
    congr 1
    congr 1
    omega
  rw [htk, List.append_assoc, scan_frames (L.take k) _ (fun r hr => h8 r (List.mem_of_mem_take hr))]
  have hrest : scanN ((frames (L.drop k)).take m ++ t) = ([], 0, (scanN ((frames (L.drop k)).take m ++ t)).2.2) := by
    by_cases hk : k < L.length
    · have hd : L.drop k = L[k] :: L.drop (k + 1) := List.drop_eq_getElem_cons hk
      have hmem : L[k] ∈ L := List.getElem_mem hk
      have hlt := k3 hk
      have h1 : frames (L.take (k + 1)) = frames (L.take k) ++ frameN L[k] := by rw [List.take_add_one, List.getElem?_eq_getElem hk, frames_app]; simp [frames]
      rw [h1, List.length_append] at hlt
      have hml : m < (frameN L[k]).length := by omega
      have e1 : (frames (L.drop k)).take m = (frameN L[k]).take m := by rw [hd, frames_cons, List.take_append_of_le_length (by omega)]
      rw [e1]
      have hnone : (frameN L[k]).take m ++ t = [] ∨ takeN ((frameN L[k]).take m ++ t) = none := by
        rcases ht with rfl | ⟨x, rfl, hcl, hx0, hx1, hne⟩
        · rw [List.append_nil]
          exact .inr (take_cut _ (h8 _ hmem) m hml)
        · refine .inr (torn_none _ (hL _ hmem) (h8 _ hmem) m hml x ⟨hx0, hx1⟩ ?_)
          have hat : (frames L)[c]?.getD 0 = (frameN L[k])[m]?.getD 0 := by
            rw [hsp, hm, List.getElem?_append_right (by omega)]
            have : (frames (L.take k)).length + m - (frames (L.take k)).length = m := by omega
            rw [this, hd, frames_cons, List.getElem?_append_left hml]
          rw [hat] at hne
          exact hne
      rcases hnone with h0 | h0
      · rw [h0, scan_nil]
      · by_cases h00 : (frameN L[k]).take m ++ t = []
        · rw [h00, scan_nil]
        · rw [scan_none h00 h0]
    · have e0 : k = L.length := by omega
      have hz : frames (L.drop k) = [] := by rw [e0, List.drop_length]; rfl
      have hcz : (frames L).length = (frames (L.take k)).length := by rw [hsp, hz]; simp
      rw [hz]
      rcases ht with rfl | ⟨x, rfl, hcl, _⟩
      · simp [scan_nil]
      · omega
  rw [hrest]
  simp
theorem frames_mono (L : List (List Int)) (i j : Nat) (h : i ≤ j) : (frames (L.take i)).length ≤ (frames (L.take j)).length := by
  have e : L.take j = L.take i ++ (L.take j).drop i := by
    have := List.take_append_drop i (L.take j)
    rw [List.take_take, Nat.min_eq_left h] at this
    exact this.symm
  rw [e, frames_app, List.length_append]
  omega
/-- Behind a crash and Open: a beginning of what was added, at least what was safe. -/
theorem crash_scan (L : List (List Int)) (hL : ∀ r ∈ L, By r) (h8 : ∀ r ∈ L, r.length ≤ 8000) (s : Nat) (hs : s ≤ L.length) (keep : Nat) (torn : Int) (ht : 0 ≤ torn ∧ torn ≤ 255) :
    ∃ k, s ≤ k ∧ k ≤ L.length ∧ (scanN (crashB (frames L) (frames (L.take s)).length keep torn)).1 = L.take k ∧ (scanN (crashB (frames L) (frames (L.take s)).length keep torn)).2.1 = (frames (L.take k)).length ∧ (crashB (frames L) (frames (L.take s)).length keep torn).take (frames (L.take k)).length = frames (L.take k) := by
  have hsl : (frames (L.take s)).length ≤ (frames L).length := by
    have := frames_mono L s L.length hs
    rwa [List.take_length] at this
  obtain ⟨c, tt, hcb, hc, hge, htt⟩ : ∃ c tt, crashB (frames L) (frames (L.take s)).length keep torn = (frames L).take c ++ tt ∧ c ≤ (frames L).length ∧ (frames (L.take s)).length ≤ c ∧ (tt = [] ∨ ∃ x, tt = [x] ∧ c < (frames L).length ∧ 0 ≤ x ∧ x ≤ 255 ∧ x ≠ (frames L)[c]?.getD 0) := by
    unfold crashB crashF
    simp only
    split
    · rename_i h
      refine ⟨(frames (L.take s)).length + keep, _, rfl, by omega, by omega, .inr ⟨_, rfl, by omega, ?_⟩⟩
      have hb : 0 ≤ (frames L).getD ((frames (L.take s)).length + keep) 0 ∧ (frames L).getD ((frames (L.take s)).length + keep) 0 ≤ 255 := by
        have hlt : (frames (L.take s)).length + keep < (frames L).length := by omega
        have := frames_by L hL ((frames L)[(frames (L.take s)).length + keep]) (List.getElem_mem hlt)
        simpa [List.getD, hlt] using this
      have hx : 0 ≤ xorB ((frames L).getD ((frames (L.take s)).length + keep) 0) torn ∧ xorB ((frames L).getD ((frames (L.take s)).length + keep) 0) torn ≤ 255 := by
        have h2 : ((frames L).getD ((frames (L.take s)).length + keep) 0).toNat ^^^ torn.toNat < 2 ^ 8 := Nat.xor_lt_two_pow (by omega) (by omega)
        unfold xorB
        omega
      refine ⟨hx.1, hx.2, ?_⟩
      have := xorB_ne _ torn hb ht h.2
      rw [List.getD] at this
      exact this
    · exact ⟨(frames (L.take s)).length + min keep ((frames L).length - (frames (L.take s)).length), [], by simp, by omega, by omega, .inl rfl⟩
  obtain ⟨k, k1, k2, k3, k4, k5⟩ := scan_cut L hL h8 c hc tt htt
  rw [← hcb] at k4 k5
  refine ⟨k, ?_, k1, k4, k5, ?_⟩
  · rcases Nat.lt_or_ge k s with h | h
    · have h1 := k3 (by omega)
      have h2 := frames_mono L (k + 1) s (by omega)
      omega
    · exact h
  · rw [hcb, List.take_append_of_le_length (by rw [List.length_take]; omega), List.take_take, Nat.min_eq_left k2]
    conv => lhs; rw [frames_split L k]
    exact List.take_left
theorem crash_zero (L : List (List Int)) (s : Nat) : crashB (frames L) (frames (L.take s)).length 0 0 = frames (L.take s) := by
  unfold crashB crashF
  simp only
  rw [if_neg (by simp)]
  simp
  conv => lhs; rw [frames_split L s]
  exact List.take_left
theorem all_short (R : List (List Int)) (h8 : ∀ r ∈ R, r.length ≤ 8000) : (R.all fun r => decide (r.length ≤ 8000)) = true := by
  rw [List.all_eq_true]
  intro r hr
  simpa using h8 r hr
theorem off_new (room : Int) (nm : List Int) (L : List (List Int)) (s : Nat) : offN (newDS room) ⟨nm, 1, false, L, s⟩ = false := by simp [offN, newDS]
theorem off_one (room lives : Int) (nm B : List Int) (sf : Nat) (L : List (List Int)) (s : Nat) : offN (oneF room lives nm B sf) ⟨nm, lives, false, L, s⟩ = false := by simp [offN, oneF]
theorem addL_new (room : Int) (nm : List Int) (R : List (List Int)) (hm : mayN nm = true) (h8 : ∀ r ∈ R, r.length ≤ 8000) (hf : ((frames R).length : Int) ≤ room) : addL (newDS room) ⟨nm, 1, false, [], 0⟩ R = (0, oneF room 1 nm (frames R) 0, ⟨nm, 1, false, R, 0⟩) := by
  unfold addL
  rw [if_neg (by rw [off_new]; simp), if_neg (by rw [all_short R h8]; simp), append_new room nm _ hm hf]
  simp
theorem addL_full (room : Int) (nm : List Int) (R : List (List Int)) (hm : mayN nm = true) (h8 : ∀ r ∈ R, r.length ≤ 8000) (hf : room < ((frames R).length : Int)) : addL (newDS room) ⟨nm, 1, false, [], 0⟩ R = (6, newDS room, ⟨nm, 1, true, [], 0⟩) := by
  unfold addL
  rw [if_neg (by rw [off_new]; simp), if_neg (by rw [all_short R h8]; simp), append_full room nm _ hm hf]
  simp
theorem addL_one (room lives : Int) (nm : List Int) (L R : List (List Int)) (sf ls : Nat) (hm : mayN nm = true) (h8 : ∀ r ∈ R, r.length ≤ 8000) (hf : ((frames L).length : Int) + ((frames R).length : Int) ≤ room) : addL (oneF room lives nm (frames L) sf) ⟨nm, lives, false, L, ls⟩ R = (0, oneF room lives nm (frames (L ++ R)) sf, ⟨nm, lives, false, L ++ R, ls⟩) := by
  unfold addL
  rw [if_neg (by rw [off_one]; simp), if_neg (by rw [all_short R h8]; simp), append_one room lives nm _ _ sf hm hf, frames_app]
  simp
theorem syncL_one (room lives : Int) (nm B : List Int) (L : List (List Int)) (sf ls : Nat) (hm : mayN nm = true) : syncL (oneF room lives nm B sf) ⟨nm, lives, false, L, ls⟩ = (0, oneF room lives nm B B.length, ⟨nm, lives, false, L, L.length⟩) := by
  unfold syncL
  rw [if_neg (by rw [off_one]; simp), sync_one room lives nm B sf hm]
  simp
theorem clearL_one (room lives : Int) (nm B : List Int) (L : List (List Int)) (sf ls : Nat) (hm : mayN nm = true) : clearL (oneF room lives nm B sf) ⟨nm, lives, false, L, ls⟩ = (0, oneF room lives nm [] 0, ⟨nm, lives, false, [], 0⟩) := by
  unfold clearL
  rw [if_neg (by rw [off_one]; simp), cut_one room lives nm B sf hm]
  simp
/-- What Open finds of whole frames. -/
theorem open_frames (room lives : Int) (nm : List Int) (L : List (List Int)) (sf : Nat) (h8 : ∀ r ∈ L, r.length ≤ 8000) : (oneF room lives nm (frames L) sf).opened nm = oneF room lives nm (frames L) (frames L).length ∧ (oneF room lives nm (frames L) sf).log nm = ⟨nm, lives, false, L, L.length⟩ := by
  rw [opened_one, log_one, scan_all L h8]
  simp
/-- What Open finds behind a crash. -/
theorem open_crash (room lives : Int) (nm : List Int) (L : List (List Int)) (hL : ∀ r ∈ L, By r) (h8 : ∀ r ∈ L, r.length ≤ 8000) (s : Nat) (hs : s ≤ L.length) (keep torn : Int) (ht : 0 ≤ torn ∧ torn ≤ 255) :
    ∃ k, s ≤ k ∧ k ≤ L.length ∧ (((oneF room lives nm (frames L) (frames (L.take s)).length).crash keep torn).on).opened nm = oneF room (lives + 1) nm (frames (L.take k)) (frames (L.take k)).length ∧ (((oneF room lives nm (frames L) (frames (L.take s)).length).crash keep torn).on).log nm = ⟨nm, lives + 1, false, L.take k, k⟩ := by
  obtain ⟨k, k1, k2, k3, k4, k5⟩ := crash_scan L hL h8 s hs keep.toNat torn ht
  refine ⟨k, k1, k2, ?_, ?_⟩
  · rw [crash_one, opened_one, k4, k5]
  · rw [crash_one, log_one, k3, List.length_take, Nat.min_eq_left k2]
end Go.Proofs.Ytlfmhdljldbjmaa
