/-
  Plain facts on chapter 7: numbers held between bounds, what time it is, the next one, numbers put in order and their middle. No program is named here.
-/
import Derived.Test.YtmibmblgaofikaaProg
namespace Go.Proofs.Ytmibmblgaofikaa
set_option linter.unusedVariables false

/-- A number held between two bounds. -/
def hold (v lo hi : Int) : Int := if v < lo then lo else if hi < v then hi else v
theorem hold_range {v lo hi : Int} (h : lo ≤ hi) : lo ≤ hold v lo hi ∧ hold v lo hi ≤ hi := by
  unfold hold; (repeat' split) <;> omega
/-- What a raw clock and its offset say. -/
def rawN (off raw : Int) : Int := hold (raw + off) 0 36028797018963967
/-- What time it is. -/
def readN (off high raw : Int) : Int := if rawN off raw < high then high else rawN off raw
/-- The time of the next stamp. -/
def issueN (off high raw : Int) : Int := if readN off high raw ≤ high then high + 1 else readN off high raw
theorem raw_range (off raw : Int) : 0 ≤ rawN off raw ∧ rawN off raw ≤ 36028797018963967 := hold_range (by omega)
theorem read_ge (off high raw : Int) : high ≤ readN off high raw := by unfold readN; split <;> omega
theorem read_range {off high raw : Int} (h1 : -1 ≤ high) (h2 : high ≤ 36028797018963967) : 0 ≤ readN off high raw ∧ readN off high raw ≤ 36028797018963967 := by
  have := raw_range off raw
  unfold readN; split <;> omega
theorem issue_gt (off high raw : Int) : high < issueN off high raw := by unfold issueN; split <;> omega
theorem issue_range {off high raw : Int} (h1 : -1 ≤ high) (h2 : high < 36028797018963967) : 0 ≤ issueN off high raw ∧ issueN off high raw ≤ 36028797018963967 := by
  have := read_range (off := off) (raw := raw) h1 (by omega : high ≤ 36028797018963967)
  unfold issueN; split <;> omega
/-- What time it is behind the next stamp: that stamp's. -/
theorem read_issue {off high raw : Int} : readN off (issueN off high raw) raw = issueN off high raw := by
  unfold issueN readN
  (repeat' split) <;> omega
/-- The raw clock held far out first: the same. -/
theorem raw_far {off raw L : Int} (h1 : -1099511627776 ≤ off) (h2 : off ≤ 1099511627776) (hL : 36029896530591743 ≤ L) : hold (hold raw (-L) L + off) 0 36028797018963967 = rawN off raw := by
  unfold rawN hold
  (repeat' split) <;> omega
/-- A number put into its place. -/
def ins (v : Int) : List Int → List Int
  | [] => [v]
  | x :: r => if x < v then x :: ins v r else v :: x :: r
theorem ins_len (v : Int) : ∀ l, (ins v l).length = l.length + 1
  | [] => rfl
  | x :: r => by unfold ins; split <;> simp [ins_len v r]
theorem ins_mem (v : Int) : ∀ (l : List Int) (z : Int), z ∈ ins v l ↔ z = v ∨ z ∈ l
  | [], z => by simp [ins]
  | x :: r, z => by
    unfold ins
    split
    · simp only [List.mem_cons, ins_mem v r z]
      constructor
      · rintro (h | h | h) <;> simp [h]
      · rintro (h | h | h) <;> simp [h]
    · simp
/-- Numbers in order. -/
def Up : List Int → Prop
  | [] => True
  | x :: r => (∀ z ∈ r, x ≤ z) ∧ Up r
theorem ins_up (v : Int) : ∀ l, Up l → Up (ins v l)
  | [], _ => ⟨fun z h => by simp at h, trivial⟩
  | x :: r, h => by
    unfold ins
    split
    · rename_i hx
      refine ⟨fun z hz => ?_, ins_up v r h.2⟩
      rcases (ins_mem v r z).1 hz with rfl | hz
      · omega
      · exact h.1 z hz
    · rename_i hx
      refine ⟨fun z hz => ?_, h⟩
      rcases List.mem_cons.1 hz with rfl | hz
      · omega
      · have := h.1 z hz; omega
/-- Numbers, put in order one by one. -/
def srt (l : List Int) : List Int := l.foldl (fun s v => ins v s) []
theorem srt_snoc (l : List Int) (v : Int) : srt (l ++ [v]) = ins v (srt l) := by simp [srt, List.foldl_append]
theorem srt_len (l : List Int) : (srt l).length = l.length := by
  suffices ∀ (l s : List Int), (l.foldl (fun s v => ins v s) s).length = s.length + l.length by simpa [srt] using this l []
  intro l
  induction l with
  | nil => intro s; simp
  | cons x r ih => intro s; simp only [List.foldl_cons, List.length_cons]; rw [ih, ins_len]; omega
theorem srt_up (l : List Int) : Up (srt l) := by
  suffices ∀ (l s : List Int), Up s → Up (l.foldl (fun s v => ins v s) s) from this l [] trivial
  intro l
  induction l with
  | nil => intro s h; exact h
  | cons x r ih => intro s h; exact ih _ (ins_up x s h)
/-- How often a test holds. -/
theorem ins_count (p : Int → Bool) (v : Int) : ∀ l, (ins v l).countP p = (v :: l).countP p
  | [] => rfl
  | x :: r => by
    unfold ins
    split
    · simp only [List.countP_cons, ins_count p v r]
      omega
    · rfl
theorem srt_count (p : Int → Bool) (l : List Int) : (srt l).countP p = l.countP p := by
  suffices ∀ (l s : List Int), (l.foldl (fun s v => ins v s) s).countP p = s.countP p + l.countP p by simpa [srt] using this l []
  intro l
  induction l with
  | nil => intro s; simp
  | cons x r ih =>
    intro s
    simp only [List.foldl_cons]
    rw [ih, ins_count]
    simp only [List.countP_cons]
    omega
theorem srt_mem (l : List Int) (z : Int) : z ∈ srt l ↔ z ∈ l := by
  have h := srt_count (fun x => x == z) l
  constructor
  · intro hz
    have : 0 < (srt l).countP (fun x => x == z) := List.countP_pos_iff.2 ⟨z, hz, by simp⟩
    rw [h] at this
    obtain ⟨y, hy, he⟩ := List.countP_pos_iff.1 this
    simp at he
    rw [← he]; exact hy
  · intro hz
    have : 0 < l.countP (fun x => x == z) := List.countP_pos_iff.2 ⟨z, hz, by simp⟩
    rw [← h] at this
    obtain ⟨y, hy, he⟩ := List.countP_pos_iff.1 this
    simp at he
    rw [← he]; exact hy
theorem getD_in {l : List Int} {k : Nat} (h : k < l.length) : l.getD k 0 = l[k] := by simp [List.getD, h]
/-- One held between the bounds of offsets. -/
def held40 (v : Int) : Int := hold v (-1099511627776) 1099511627776
/-- The middle one. -/
def midN (l : List Int) : Int := (srt (l.map held40)).getD ((l.length - 1) / 2) 0
theorem mid_range (l : List Int) (h : l ≠ []) : -1099511627776 ≤ midN l ∧ midN l ≤ 1099511627776 := by
  have hlen : (srt (l.map held40)).length = l.length := by rw [srt_len, List.length_map]
  have hpos : 0 < l.length := List.length_pos_iff.2 h
  have hlt : (l.length - 1) / 2 < (srt (l.map held40)).length := by rw [hlen]; omega
  have hm : midN l ∈ srt (l.map held40) := by
    unfold midN
    rw [getD_in hlt]
    exact List.getElem_mem hlt
  rw [srt_mem] at hm
  obtain ⟨z, _, hz⟩ := List.mem_map.1 hm
  rw [← hz]
  exact hold_range (by omega)
/-- In numbers in order those ahead of a place are not above it, those behind it not below. -/
theorem up_at : ∀ (l : List Int) (k : Nat) (x : Int), Up l → l[k]? = some x → l.countP (fun z => decide (z < x)) ≤ k ∧ l.countP (fun z => decide (x < z)) ≤ l.length - 1 - k
  | [], k, x, _, h => by simp at h
  | y :: r, 0, x, hu, h => by
    simp at h
    subst h
    refine ⟨?_, ?_⟩
    · have : (y :: r).countP (fun z => decide (z < y)) = 0 := by
        rw [List.countP_eq_zero]
        intro z hz
        rcases List.mem_cons.1 hz with rfl | hz
        · simp
        · have := hu.1 z hz; simp; omega
      omega
    · simp only [List.countP_cons, List.length_cons]
      have := List.countP_le_length (p := fun z => decide (y < z)) (l := r)
      simp
      exact this
  | y :: r, k + 1, x, hu, h => by
    have h' : r[k]? = some x := by simpa using h
    obtain ⟨a, b⟩ := up_at r k x hu.2 h'
    have hyx : y ≤ x := hu.1 x (List.mem_of_getElem? h')
    have hk : k < r.length := (List.getElem?_eq_some_iff.1 h').1
    simp only [List.countP_cons, List.length_cons]
    have e : decide (x < y) = false := decide_eq_false (by omega)
    rw [e]
    refine ⟨?_, by simp; omega⟩
    split <;> omega
theorem mid_counts (l : List Int) (h : l ≠ []) : 2 * (l.map held40).countP (fun z => decide (z < midN l)) ≤ l.length - 1 ∧ 2 * (l.map held40).countP (fun z => decide (midN l < z)) ≤ l.length ∧ midN l ∈ l.map held40 := by
  have hlen : (srt (l.map held40)).length = l.length := by rw [srt_len, List.length_map]
  have hpos : 0 < l.length := List.length_pos_iff.2 h
  have hlt : (l.length - 1) / 2 < (srt (l.map held40)).length := by rw [hlen]; omega
  have hx : (srt (l.map held40))[(l.length - 1) / 2]? = some (midN l) := by
    unfold midN
    rw [getD_in hlt]
    exact List.getElem?_eq_getElem hlt
  obtain ⟨a, b⟩ := up_at _ _ _ (srt_up _) hx
  rw [srt_count] at a b
  rw [hlen] at b
  refine ⟨by omega, by omega, ?_⟩
  rw [← srt_mem]
  exact List.mem_of_getElem? hx
end Go.Proofs.Ytmibmblgaofikaa
