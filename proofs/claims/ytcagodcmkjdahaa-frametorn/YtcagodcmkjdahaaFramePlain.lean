/-
  Plain facts on chapter 3's frames: a frame's bytes, the record that a list of bytes begins with, all of them; frames behind frames; a torn end.
-/
import Derived.Test.YtcagodcmkjdahaaCrc
namespace Go.Proofs.Ytcagodcmkjdahaa
open Go.RowKit
set_option linter.unusedVariables false

def By (l : List Int) : Prop := ∀ z ∈ l, 0 ≤ z ∧ z ≤ 255
theorem By.app {a b : List Int} (ha : By a) (hb : By b) : By (a ++ b) := fun z hz => (List.mem_append.1 hz).elim (ha z) (hb z)
theorem By.left {a b : List Int} (h : By (a ++ b)) : By a := fun z hz => h z (List.mem_append.2 (.inl hz))
theorem By.right {a b : List Int} (h : By (a ++ b)) : By b := fun z hz => h z (List.mem_append.2 (.inr hz))
theorem By.take {a : List Int} (h : By a) (n : Nat) : By (a.take n) := fun z hz => h z (List.mem_of_mem_take hz)
theorem By.drop {a : List Int} (h : By a) (n : Nat) : By (a.drop n) := fun z hz => h z (List.mem_of_mem_drop hz)
/-- Four bytes, the lowest first. -/
def le32 (v : Nat) : List Int := [((v % 256 : Nat) : Int), ((v / 256 % 256 : Nat) : Int), ((v / 65536 % 256 : Nat) : Int), ((v / 16777216 % 256 : Nat) : Int)]
/-- The number that four bytes are. -/
def rd32 (zs : List Int) : Nat := (zs[0]?.getD 0).toNat + 256 * (zs[1]?.getD 0).toNat + 65536 * (zs[2]?.getD 0).toNat + 16777216 * (zs[3]?.getD 0).toNat
theorem le32_len (v : Nat) : (le32 v).length = 4 := rfl
theorem le32_by (v : Nat) : By (le32 v) := by
  intro z hz
  simp only [le32, List.mem_cons, List.not_mem_nil, or_false] at hz
  rcases hz with rfl | rfl | rfl | rfl <;> omega
theorem rd_le (v : Nat) (r : List Int) (h : v < 4294967296) : rd32 (le32 v ++ r) = v := by
  simp [rd32, le32]
  omega
theorem four (zs : List Int) (h : 4 ≤ zs.length) : ∃ a b c d r, zs = a :: b :: c :: d :: r := by
  rcases zs with _ | ⟨a, _ | ⟨b, _ | ⟨c, _ | ⟨d, r⟩⟩⟩⟩ <;> simp at h
  exact ⟨a, b, c, d, r, rfl⟩
theorem rd_lt (zs : List Int) (hb : By zs) : rd32 zs < 4294967296 := by
  have b0 := at_byte hb 0
  have b1 := at_byte hb 1
  have b2 := at_byte hb 2
  have b3 := at_byte hb 3
  unfold rd32; omega
theorem le_rd (zs : List Int) (hb : By zs) (h : 4 ≤ zs.length) : le32 (rd32 zs) = zs.take 4 := by
  obtain ⟨a, b, c, d, r, rfl⟩ := four zs h
  have b0 := hb a (by simp)
  have b1 := hb b (by simp)
  have b2 := hb c (by simp)
  have b3 := hb d (by simp)
  simp [rd32, le32]
  refine ⟨?_, ?_, ?_, ?_⟩ <;> omega
theorem le_inj {u v : Nat} (hu : u < 4294967296) (hv : v < 4294967296) (h : le32 u = le32 v) : u = v := by
  have h1 := rd_le u [] hu
  rw [h, rd_le v [] hv] at h1
  exact h1.symm

/-- A frame's first eight bytes. -/
def hd (n : Nat) : List Int := le32 n ++ le32 (notN n)
theorem hd_len (n : Nat) : (hd n).length = 8 := rfl
theorem hd_by (n : Nat) : By (hd n) := (le32_by _).app (le32_by _)
/-- A record's frame. -/
def frameN (r : List Int) : List Int := hd r.length ++ (le32 (ofN (hd r.length ++ r)) ++ r)
theorem frame_len (r : List Int) : (frameN r).length = 12 + r.length := by simp [frameN, hd_len, le32_len]; omega
theorem frame_by (r : List Int) (h : By r) : By (frameN r) := (hd_by _).app ((le32_by _).app h)
/-- The record whose frame these bytes begin with. -/
def takeN (zs : List Int) : Option (List Int) :=
  if zs.length < 12 then none
  else if rd32 (zs.drop 4) ≠ notN (rd32 zs) ∨ 8000 < rd32 zs ∨ zs.length - 12 < rd32 zs then none
  else if frameN ((zs.drop 12).take (rd32 zs)) = zs.take (12 + rd32 zs) then some ((zs.drop 12).take (rd32 zs)) else none
theorem frame_rd (r s : List Int) (h : r.length ≤ 8000) : rd32 (frameN r ++ s) = r.length ∧ rd32 ((frameN r ++ s).drop 4) = notN r.length := by
  have e : frameN r ++ s = le32 r.length ++ (le32 (notN r.length) ++ (le32 (ofN (hd r.length ++ r)) ++ r ++ s)) := by simp [frameN, hd]
  rw [e]
  refine ⟨rd_le _ _ (by omega), ?_⟩
  rw [List.drop_left' (by rfl)]
  exact rd_le _ _ (notN_lt _)
theorem frame_body (r s : List Int) : ((frameN r ++ s).drop 12).take r.length = r ∧ (frameN r ++ s).take (12 + r.length) = frameN r ∧ (frameN r ++ s).drop (12 + r.length) = s := by
  refine ⟨?_, ?_, ?_⟩
  · have e : frameN r ++ s = (hd r.length ++ le32 (ofN (hd r.length ++ r))) ++ (r ++ s) := by simp [frameN]
    rw [e, List.drop_left' (by simp [hd_len, le32_len])]
    exact List.take_left' rfl
  · exact List.take_left' (frame_len r)
  · exact List.drop_left' (frame_len r)
theorem take_frame (r s : List Int) (h : r.length ≤ 8000) : takeN (frameN r ++ s) = some r := by
  have hl : (frameN r ++ s).length = 12 + r.length + s.length := by rw [List.length_append, frame_len]
  obtain ⟨h1, h2⟩ := frame_rd r s h
  obtain ⟨h3, h4, _⟩ := frame_body r s
  unfold takeN
  rw [if_neg (by omega), h1, h2, if_neg (by omega), h3, h4, if_pos rfl]
theorem take_some {zs r : List Int} (h : takeN zs = some r) : r.length ≤ 8000 ∧ zs = frameN r ++ zs.drop (12 + r.length) ∧ 12 + r.length ≤ zs.length := by
  unfold takeN at h
  split at h
  · cases h
  · split at h
    · cases h
    · split at h
      · rename_i h1 h2 h3
        cases h
        have hr : ((zs.drop 12).take (rd32 zs)).length = rd32 zs := by simp; omega
        rw [hr]
        refine ⟨by omega, ?_, by omega⟩
        rw [h3]
        exact (List.take_append_drop _ _).symm
      · cases h
theorem take_by {zs r : List Int} (hb : By zs) (h : takeN zs = some r) : By r := by
  have := (take_some h).2.1
  rw [this] at hb
  exact (hb.left).right.right

/-- All records, how many bytes their frames have, whether that is all. -/
def scanF : Nat → List Int → List (List Int) × Nat × Bool
  | 0, zs => ([], 0, zs.isEmpty)
  | f + 1, zs =>
    if zs = [] then ([], 0, true) else
    match takeN zs with
    | none => ([], 0, false)
    | some r => (r :: (scanF f (zs.drop (12 + r.length))).1, 12 + r.length + (scanF f (zs.drop (12 + r.length))).2.1, (scanF f (zs.drop (12 + r.length))).2.2)
theorem scanF_more (f : Nat) : ∀ (g : Nat) (zs : List Int), zs.length ≤ f → zs.length ≤ g → scanF f zs = scanF g zs := by
  induction f with
  | zero =>
    intro g zs h1 h2
    have : zs = [] := List.eq_nil_of_length_eq_zero (by omega)
    subst this
    cases g <;> simp [scanF]
  | succ f ih =>
    intro g zs h1 h2
    cases g with
    | zero =>
      have : zs = [] := List.eq_nil_of_length_eq_zero (by omega)
      subst this
      simp [scanF]
    | succ g =>
      unfold scanF
      split
      · rfl
      · split
        · rfl
        · rename_i r hr
          have := take_some hr
          rw [ih g (zs.drop (12 + r.length)) (by simp; omega) (by simp; omega)]
def scanN (zs : List Int) : List (List Int) × Nat × Bool := scanF zs.length zs
theorem scan_nil : scanN [] = ([], 0, true) := rfl
theorem scan_none {zs : List Int} (h0 : zs ≠ []) (h : takeN zs = none) : scanN zs = ([], 0, false) := by
  unfold scanN
  cases hl : zs.length with
  | zero => exact absurd (List.eq_nil_of_length_eq_zero hl) h0
  | succ f => unfold scanF; rw [if_neg h0, h]
theorem scan_some {zs r : List Int} (h : takeN zs = some r) : scanN zs = (r :: (scanN (zs.drop (12 + r.length))).1, 12 + r.length + (scanN (zs.drop (12 + r.length))).2.1, (scanN (zs.drop (12 + r.length))).2.2) := by
  have ht := take_some h
  have h0 : zs ≠ [] := by intro h'; rw [h'] at ht; simp at ht
  unfold scanN
  cases hl : zs.length with
  | zero => exact absurd (List.eq_nil_of_length_eq_zero hl) h0
  | succ f =>
    have e : scanF (f + 1) zs = (r :: (scanF f (zs.drop (12 + r.length))).1, 12 + r.length + (scanF f (zs.drop (12 + r.length))).2.1, (scanF f (zs.drop (12 + r.length))).2.2) := by
      conv => lhs; unfold scanF
      rw [if_neg h0, h]
    rw [e, scanF_more f (zs.drop (12 + r.length)).length (zs.drop (12 + r.length)) (by simp; omega) (Nat.le_refl _)]
/-- Frames, one behind the other. -/
def frames (L : List (List Int)) : List Int := (L.map frameN).flatten
theorem frames_cons (r : List Int) (L : List (List Int)) : frames (r :: L) = frameN r ++ frames L := rfl
theorem frames_app (L M : List (List Int)) : frames (L ++ M) = frames L ++ frames M := by simp [frames]
theorem frames_by (L : List (List Int)) (h : ∀ r ∈ L, By r) : By (frames L) := by
  induction L with
  | nil => intro z hz; simp [frames] at hz
  | cons r L ih => rw [frames_cons]; exact (frame_by r (h r (by simp))).app (ih fun x hx => h x (by simp [hx]))
theorem scan_frames (L : List (List Int)) (s : List Int) (h : ∀ r ∈ L, r.length ≤ 8000) : scanN (frames L ++ s) = (L ++ (scanN s).1, (frames L).length + (scanN s).2.1, (scanN s).2.2) := by
  induction L with
  | nil => simp [frames]
  | cons r L ih =>
    have hr := take_frame r (frames L ++ s) (h r (by simp))
    rw [frames_cons, List.append_assoc, scan_some hr, (frame_body r (frames L ++ s)).2.2, ih fun x hx => h x (by simp [hx])]
    simp [frame_len]
    omega
theorem scan_all (L : List (List Int)) (h : ∀ r ∈ L, r.length ≤ 8000) : scanN (frames L) = (L, (frames L).length, true) := by
  have := scan_frames L [] h
  rw [List.append_nil, scan_nil] at this
  simpa using this

theorem rd_take (zs : List Int) (m : Nat) (h : 4 ≤ m) : rd32 (zs.take m) = rd32 zs := by
  have h0 : 0 < m := by omega
  have h1 : 1 < m := by omega
  have h2 : 2 < m := by omega
  have h3 : 3 < m := by omega
  simp [rd32, h0, h1, h2, h3]
/-- A frame that is cut off is none. -/
theorem take_cut (r : List Int) (h8 : r.length ≤ 8000) (m : Nat) (hm : m < (frameN r).length) : takeN ((frameN r).take m) = none := by
  have hl := frame_len r
  have hml : ((frameN r).take m).length = m := by simp; omega
  unfold takeN
  by_cases h12 : m < 12
  · rw [if_pos (by rw [hml]; exact h12)]
  · have h1 := (frame_rd r [] h8).1
    rw [List.append_nil] at h1
    rw [if_neg (by rw [hml]; exact h12), rd_take _ _ (by omega), h1, if_pos]
    right; right
    rw [hml]; omega
/-- One byte at the end, changed: another sum. -/
theorem last_byte (p : List Int) (x y : Int) (hp : By p) (hx : 0 ≤ x ∧ x ≤ 255) (hy : 0 ≤ y ∧ y ≤ 255) (h : ofN (p ++ [x]) = ofN (p ++ [y])) : x = y := by
  have l1 := Crc.run_lt p (notN 0) (notN_lt 0) hp
  have bx : Crc.Bytes [x] := fun z hz => by simp at hz; subst hz; exact hx
  have by' : Crc.Bytes [y] := fun z hz => by simp at hz; subst hz; exact hy
  have h' : Crc.run (notN 0) (p ++ [x]) = Crc.run (notN 0) (p ++ [y]) := notN_inj (Crc.run_lt _ _ (notN_lt 0) (fun z hz => (List.mem_append.1 hz).elim (hp z) (bx z))) (Crc.run_lt _ _ (notN_lt 0) (fun z hz => (List.mem_append.1 hz).elim (hp z) (by' z))) h
  rw [Crc.run_app, Crc.run_app] at h'
  have e1 : Crc.run (Crc.run (notN 0) p) [x, 0, 0, 0] = Crc.run (Crc.run (notN 0) p) [y, 0, 0, 0] := by
    have a1 : [x, 0, 0, 0] = [x] ++ [0, 0, 0] := rfl
    have a2 : [y, 0, 0, 0] = [y] ++ [0, 0, 0] := rfl
    rw [a1, a2, Crc.run_app, Crc.run_app, h']
  have z0 : (0 : Int) ≤ 0 ∧ (0 : Int) ≤ 255 := by omega
  refine (Crc.burst4 _ x 0 0 0 y 0 0 0 ?_ ?_ e1).1
  · intro z hz; simp only [List.mem_cons, List.not_mem_nil, or_false] at hz; rcases hz with rfl | rfl | rfl | rfl <;> first | exact hx | exact z0
  · intro z hz; simp only [List.mem_cons, List.not_mem_nil, or_false] at hz; rcases hz with rfl | rfl | rfl | rfl <;> first | exact hy | exact z0
/-- A frame cut off, and a byte behind that is not the one that was there: no frame. -/
theorem torn_none (r : List Int) (hr : By r) (h8 : r.length ≤ 8000) (m : Nat) (hm : m < (frameN r).length) (x : Int) (hx : 0 ≤ x ∧ x ≤ 255) (hne : x ≠ (frameN r)[m]?.getD 0) : takeN ((frameN r).take m ++ [x]) = none := by
  cases ht : takeN ((frameN r).take m ++ [x]) with
  | none => rfl
  | some q =>
    exfalso
    obtain ⟨h1, h2, h3⟩ := take_some ht
    have hl := frame_len r
    have hml : ((frameN r).take m ++ [x]).length = m + 1 := by simp; omega
    rw [hml] at h3
    -- the counts are alike: the first four bytes are
    have hq4 : (frameN q).take 4 = (frameN r).take 4 := by
      have a1 : ((frameN r).take m ++ [x]).take 4 = (frameN r).take 4 := by
        rw [List.take_append_of_le_length (by simp; omega), List.take_take]
        congr 1; omega
      rw [h2, List.take_append_of_le_length (by rw [frame_len]; omega)] at a1
      exact a1
    have hql : q.length = r.length := by
      have e1 : (frameN q).take 4 = le32 q.length := by unfold frameN hd; rw [List.append_assoc]; exact List.take_left' rfl
      have e2 : (frameN r).take 4 = le32 r.length := by unfold frameN hd; rw [List.append_assoc]; exact List.take_left' rfl
      rw [e1, e2] at hq4
      exact le_inj (by omega) (by omega) hq4
    have hme : m = 11 + r.length := by omega
    have hdrop : ((frameN r).take m ++ [x]).drop (12 + q.length) = [] := List.drop_eq_nil_of_le (by omega)
    rw [hdrop, List.append_nil] at h2
    have hlt : m < (frameN r).length := hm
    have hsp : frameN r = (frameN r).take m ++ [(frameN r)[m]?.getD 0] := by
      have := List.take_append_drop m (frameN r)
      rw [drop_at _ m hm, List.drop_eq_nil_of_le (by omega)] at this
      exact this.symm
    have hby := frame_by r hr
    by_cases h0 : r = []
    · have q0 : q = [] := List.eq_nil_of_length_eq_zero (by rw [hql, h0]; rfl)
      rw [q0, ← h0] at h2
      rw [hsp] at h2
      rw [List.take_left' (by simp; omega)] at h2
      have := List.append_cancel_left h2
      simp at this
      exact hne this.1
    · have hq0 : q ≠ [] := by intro h'; rw [h'] at hql; exact h0 (List.eq_nil_of_length_eq_zero hql.symm)
      -- all but the last byte are alike
      obtain ⟨r', a, rfl⟩ : ∃ r' a, r = r' ++ [a] := ⟨r.dropLast, r.getLast h0, (List.dropLast_concat_getLast h0).symm⟩
      obtain ⟨q', b, rfl⟩ : ∃ q' b, q = q' ++ [b] := ⟨q.dropLast, q.getLast hq0, (List.dropLast_concat_getLast hq0).symm⟩
      have fr : frameN (r' ++ [a]) = (hd (r' ++ [a]).length ++ (le32 (ofN (hd (r' ++ [a]).length ++ (r' ++ [a]))) ++ r')) ++ [a] := by simp [frameN]
      have fq : frameN (q' ++ [b]) = (hd (q' ++ [b]).length ++ (le32 (ofN (hd (q' ++ [b]).length ++ (q' ++ [b]))) ++ q')) ++ [b] := by simp [frameN]
      have hme' : m = (hd (r' ++ [a]).length ++ (le32 (ofN (hd (r' ++ [a]).length ++ (r' ++ [a]))) ++ r')).length := by
        rw [hme]; simp [hd_len, le32_len]; omega
      rw [fr, hme', List.take_left' rfl, fq] at h2
      obtain ⟨e1, e2⟩ := List.append_inj' h2 rfl
      rw [hql] at e1
      have e3 := List.append_cancel_left e1
      obtain ⟨e4, e5⟩ := List.append_inj e3 rfl
      have hsum := le_inj (of_lt _) (of_lt _) e4
      rw [← e5] at hsum
      have hbr : By r' := hr.left
      have hba : 0 ≤ a ∧ a ≤ 255 := hr a (by simp)
      have hbb : 0 ≤ b ∧ b ≤ 255 := by simp at e2; rw [← e2]; exact hx
      rw [← List.append_assoc, ← List.append_assoc] at hsum
      have hab : a = b := last_byte _ a b ((hd_by _).app hbr) hba hbb hsum
      apply hne
      rw [fr, hme']
      simp at e2
      rw [e2, ← hab]
      simp
end Go.Proofs.Ytcagodcmkjdahaa
