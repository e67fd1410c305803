/-
  Plain facts on the sum of chapter 2, bit by bit: it goes on over parts, it is even over exclusive or, and bytes that differ within four side by side have unlike sums. No program is named here.
-/
import Derived.WalkKit
import Derived.Laws.BitsAllLaws
namespace Go.Proofs.Ytcagodcmkjdahaa.Crc
open Go Go.RowKit

def poly : Nat := 2197175160
def step1 (c : Nat) : Nat := if c % 2 = 1 then c / 2 ^^^ poly else c / 2
def steps : Nat → Nat → Nat
  | 0, c => c
  | n + 1, c => steps n (step1 c)
def step8 (c : Nat) : Nat := steps 8 c
def feed (c : Nat) (b : Int) : Nat := step8 (c ^^^ b.toNat)
def run (c : Nat) (l : List Int) : Nat := l.foldl feed c
def Byte (b : Int) : Prop := 0 ≤ b ∧ b ≤ 255
def Bytes (l : List Int) : Prop := ∀ b ∈ l, Byte b

theorem eq_of_xor {a b : Nat} (h : a ^^^ b = 0) : a = b := by
  have e : a ^^^ b ^^^ b = a := by rw [Nat.xor_assoc, Nat.xor_self, Nat.xor_zero]
  rw [h, Nat.zero_xor] at e
  exact e.symm
theorem xor_mod2 (a b : Nat) : (a ^^^ b) % 2 = (a + b) % 2 := by
  have h := Nat.xor_mod_two_pow (a := a) (b := b) (n := 1)
  simp only [Nat.pow_one] at h
  rw [h]
  have ha : a % 2 = 0 ∨ a % 2 = 1 := by omega
  have hb : b % 2 = 0 ∨ b % 2 = 1 := by omega
  rcases ha with ha | ha <;> rcases hb with hb | hb <;> rw [ha, hb]
  · show 0 = _; omega
  · show 1 = _; omega
  · show 1 = _; omega
  · show 0 = _; omega
theorem xor_half (a b : Nat) : (a ^^^ b) / 2 = a / 2 ^^^ b / 2 := by
  have := Nat.shiftRight_xor_distrib (a := a) (b := b) (i := 1)
  simpa [Nat.shiftRight_eq_div_pow] using this
theorem step1_xor (a b : Nat) : step1 (a ^^^ b) = step1 a ^^^ step1 b := by
  unfold step1
  rw [xor_mod2, xor_half]
  by_cases ha : a % 2 = 1
  · by_cases hb : b % 2 = 1
    · have h : ¬ (a + b) % 2 = 1 := by omega
      rw [if_neg h, if_pos ha, if_pos hb]
      have e : a / 2 ^^^ poly ^^^ (b / 2 ^^^ poly) = (a / 2 ^^^ b / 2) ^^^ (poly ^^^ poly) := by
        rw [Nat.xor_assoc, Nat.xor_assoc, Nat.xor_comm poly, Nat.xor_assoc]
      rw [e, Nat.xor_self, Nat.xor_zero]
    · have h : (a + b) % 2 = 1 := by omega
      rw [if_pos h, if_pos ha, if_neg hb, Nat.xor_assoc, Nat.xor_comm (b / 2), ← Nat.xor_assoc]
  · by_cases hb : b % 2 = 1
    · have h : (a + b) % 2 = 1 := by omega
      rw [if_pos h, if_neg ha, if_pos hb, Nat.xor_assoc]
    · have h : ¬ (a + b) % 2 = 1 := by omega
      rw [if_neg h, if_neg ha, if_neg hb]
theorem steps_xor (n : Nat) : ∀ a b : Nat, steps n (a ^^^ b) = steps n a ^^^ steps n b := by
  induction n with
  | zero => intro a b; rfl
  | succ n ih => intro a b; show steps n (step1 (a ^^^ b)) = _; rw [step1_xor, ih]; rfl
theorem step1_lt (c : Nat) (h : c < 2 ^ 32) : step1 c < 2 ^ 32 := by
  unfold step1
  split
  · exact Nat.xor_lt_two_pow (by omega) (by decide)
  · omega
theorem steps_lt (n : Nat) : ∀ c, c < 2 ^ 32 → steps n c < 2 ^ 32 := by
  induction n with
  | zero => intro c h; exact h
  | succ n ih => intro c h; exact ih _ (step1_lt c h)
theorem step1_zero (c : Nat) (h : c < 2 ^ 32) (h0 : step1 c = 0) : c = 0 := by
  unfold step1 at h0
  split at h0
  · have : c / 2 = poly := eq_of_xor h0
    unfold poly at this
    omega
  · omega
theorem steps_zero (n : Nat) : ∀ c, c < 2 ^ 32 → steps n c = 0 → c = 0 := by
  induction n with
  | zero => intro c _ h; exact h
  | succ n ih => intro c hc h; exact step1_zero c hc (ih _ (step1_lt c hc) h)
/-- Eight steps turn what lies eight bits up into itself. -/
theorem steps_shift (n : Nat) : ∀ x, x * 2 ^ n < 2 ^ 32 → steps n (x * 2 ^ n) = x := by
  induction n with
  | zero => intro x _; simp [steps]
  | succ n ih =>
    intro x h
    have e : x * 2 ^ (n + 1) = 2 * (x * 2 ^ n) := by rw [Nat.pow_succ]; rw [← Nat.mul_assoc, Nat.mul_comm]
    show steps n (step1 (x * 2 ^ (n + 1))) = x
    have h1 : step1 (x * 2 ^ (n + 1)) = x * 2 ^ n := by
      unfold step1; rw [e]
      have : ¬ 2 * (x * 2 ^ n) % 2 = 1 := by omega
      rw [if_neg this]; omega
    rw [h1]
    exact ih x (by rw [e] at h; omega)

theorem toNat_lt {b : Int} (h : Byte b) : b.toNat < 2 ^ 8 := by unfold Byte at h; omega
theorem feed_lt (c : Nat) (b : Int) (hc : c < 2 ^ 32) (hb : Byte b) : feed c b < 2 ^ 32 :=
  steps_lt 8 _ (Nat.xor_lt_two_pow hc (by have := toNat_lt hb; omega))
theorem run_lt : ∀ (l : List Int) (c : Nat), c < 2 ^ 32 → Bytes l → run c l < 2 ^ 32
  | [], c, hc, _ => hc
  | b :: r, c, hc, hl => run_lt r (feed c b) (feed_lt c b hc (hl b (by simp))) (fun x hx => hl x (by simp [hx]))
theorem run_app (c : Nat) (a b : List Int) : run c (a ++ b) = run (run c a) b := List.foldl_append

/-- Two states that differ, fed with the same bytes, still differ. -/
theorem feed_diff (c d : Nat) (x y : Int) : feed c x ^^^ feed d y = step8 ((c ^^^ d) ^^^ (x.toNat ^^^ y.toNat)) := by
  unfold feed step8
  rw [← steps_xor]
  congr 1
  rw [Nat.xor_assoc, ← Nat.xor_assoc x.toNat, Nat.xor_comm x.toNat d, Nat.xor_assoc d, ← Nat.xor_assoc]
theorem xor_ne {a b : Nat} (h : a ≠ b) : a ^^^ b ≠ 0 := fun h0 => h (eq_of_xor h0)
theorem run_ne : ∀ (l : List Int) (c d : Nat), c < 2 ^ 32 → d < 2 ^ 32 → Bytes l → c ≠ d → run c l ≠ run d l
  | [], c, d, _, _, _, h => h
  | b :: r, c, d, hc, hd, hl, h => by
    have hb := hl b (by simp)
    refine run_ne r (feed c b) (feed d b) (feed_lt c b hc hb) (feed_lt d b hd hb) (fun x hx => hl x (by simp [hx])) ?_
    intro e
    have h1 := feed_diff c d b b
    rw [e, Nat.xor_self, Nat.xor_self, Nat.xor_zero] at h1
    have h2 := steps_zero 8 _ (Nat.xor_lt_two_pow hc hd) h1.symm
    exact h (eq_of_xor h2)

/-- Four bytes from one state: unlike bytes, unlike states. -/
theorem shift_in (e d : Nat) (hd : d * 2 ^ 8 < 2 ^ 32) : steps 8 e ^^^ d = steps 8 (e ^^^ d * 2 ^ 8) := by
  rw [steps_xor, steps_shift 8 d hd]
theorem join_zero (e1 e2 : Nat) (n : Nat) (h1 : e1 < 2 ^ n) (h : e1 ^^^ e2 * 2 ^ n = 0) : e1 = 0 ∧ e2 = 0 := by
  have h0 := eq_of_xor h
  have : e2 = 0 := by
    apply Classical.byContradiction
    intro hn
    have : 2 ^ n ≤ e2 * 2 ^ n := Nat.le_mul_of_pos_left _ (by omega)
    omega
  exact ⟨by rw [h0, this]; simp, this⟩
theorem two_up (e : Nat) : e * 2 ^ 8 * 2 ^ 8 = e * 2 ^ 16 := by omega
theorem three_up (e : Nat) : e * 2 ^ 8 * 2 ^ 8 * 2 ^ 8 = e * 2 ^ 24 := by omega
theorem burst4 (c : Nat) (x1 x2 x3 x4 y1 y2 y3 y4 : Int) (hx : Bytes [x1, x2, x3, x4]) (hy : Bytes [y1, y2, y3, y4]) (h : run c [x1, x2, x3, x4] = run c [y1, y2, y3, y4]) : x1 = y1 ∧ x2 = y2 ∧ x3 = y3 ∧ x4 = y4 := by
  have bx : ∀ b ∈ [x1, x2, x3, x4], b.toNat < 2 ^ 8 := fun b hb => toNat_lt (hx b hb)
  have by' : ∀ b ∈ [y1, y2, y3, y4], b.toNat < 2 ^ 8 := fun b hb => toNat_lt (hy b hb)
  obtain ⟨e1, he1⟩ : ∃ e, e = x1.toNat ^^^ y1.toNat := ⟨_, rfl⟩
  obtain ⟨e2, he2⟩ : ∃ e, e = x2.toNat ^^^ y2.toNat := ⟨_, rfl⟩
  obtain ⟨e3, he3⟩ : ∃ e, e = x3.toNat ^^^ y3.toNat := ⟨_, rfl⟩
  obtain ⟨e4, he4⟩ : ∃ e, e = x4.toNat ^^^ y4.toNat := ⟨_, rfl⟩
  have l1 : e1 < 2 ^ 8 := by rw [he1]; exact Nat.xor_lt_two_pow (bx x1 (by simp)) (by' y1 (by simp))
  have l2 : e2 < 2 ^ 8 := by rw [he2]; exact Nat.xor_lt_two_pow (bx x2 (by simp)) (by' y2 (by simp))
  have l3 : e3 < 2 ^ 8 := by rw [he3]; exact Nat.xor_lt_two_pow (bx x3 (by simp)) (by' y3 (by simp))
  have l4 : e4 < 2 ^ 8 := by rw [he4]; exact Nat.xor_lt_two_pow (bx x4 (by simp)) (by' y4 (by simp))
  have d : run c [x1, x2, x3, x4] ^^^ run c [y1, y2, y3, y4] = steps 8 (steps 8 (steps 8 (steps 8 e1 ^^^ e2) ^^^ e3) ^^^ e4) := by
    show feed (feed (feed (feed c x1) x2) x3) x4 ^^^ feed (feed (feed (feed c y1) y2) y3) y4 = _
    rw [feed_diff, feed_diff, feed_diff, feed_diff, Nat.xor_self, Nat.zero_xor, ← he1, ← he2, ← he3, ← he4]
    rfl
  rw [h, Nat.xor_self] at d
  -- all four brought into one word
  have k1 : steps 8 e1 ^^^ e2 = steps 8 (e1 ^^^ e2 * 2 ^ 8) := shift_in _ _ (by omega)
  have k2 : steps 8 (steps 8 (e1 ^^^ e2 * 2 ^ 8)) ^^^ e3 = steps 8 (steps 8 (e1 ^^^ e2 * 2 ^ 8) ^^^ e3 * 2 ^ 8) := shift_in _ _ (by omega)
  have k2' : steps 8 (e1 ^^^ e2 * 2 ^ 8) ^^^ e3 * 2 ^ 8 = steps 8 ((e1 ^^^ e2 * 2 ^ 8) ^^^ e3 * 2 ^ 8 * 2 ^ 8) := shift_in _ _ (by omega)
  obtain ⟨E, hE⟩ : ∃ E, E = (e1 ^^^ e2 * 2 ^ 8) ^^^ e3 * 2 ^ 8 * 2 ^ 8 := ⟨_, rfl⟩
  have k3 : steps 8 (steps 8 (steps 8 E)) ^^^ e4 = steps 8 (steps 8 (steps 8 (E ^^^ e4 * 2 ^ 8 * 2 ^ 8 * 2 ^ 8))) := by
    rw [shift_in _ _ (by omega), shift_in _ _ (by omega), shift_in _ _ (by omega)]
  rw [k1, k2, k2', ← hE, k3] at d
  have m1 : e1 ^^^ e2 * 2 ^ 8 < 2 ^ 16 := Nat.xor_lt_two_pow (by omega) (by omega)
  have m2 : E < 2 ^ 24 := by rw [hE]; exact Nat.xor_lt_two_pow (by omega) (by omega)
  have m3 : E ^^^ e4 * 2 ^ 8 * 2 ^ 8 * 2 ^ 8 < 2 ^ 32 := Nat.xor_lt_two_pow (by omega) (by omega)
  have z := steps_zero 8 _ m3 (steps_zero 8 _ (steps_lt 8 _ m3) (steps_zero 8 _ (steps_lt 8 _ (steps_lt 8 _ m3)) (steps_zero 8 _ (steps_lt 8 _ (steps_lt 8 _ (steps_lt 8 _ m3))) d.symm)))
  have q4 : e4 * 2 ^ 8 * 2 ^ 8 * 2 ^ 8 = e4 * 2 ^ 24 := three_up e4
  have q3 : e3 * 2 ^ 8 * 2 ^ 8 = e3 * 2 ^ 16 := two_up e3
  rw [q4] at z
  have z1 : E = 0 ∧ e4 = 0 := join_zero E e4 24 m2 z
  rw [q3] at hE
  have z2 := join_zero (e1 ^^^ e2 * 2 ^ 8) e3 16 m1 (by rw [← hE]; exact z1.1)
  have z3 := join_zero e1 e2 8 l1 z2.1
  have fin : ∀ x y : Int, Byte x → Byte y → x.toNat ^^^ y.toNat = 0 → x = y := by
    intro x y bx by' h
    have := eq_of_xor h
    unfold Byte at bx by'
    omega
  exact ⟨fin _ _ (hx x1 (by simp)) (hy y1 (by simp)) (by rw [← he1]; exact z3.1), fin _ _ (hx x2 (by simp)) (hy y2 (by simp)) (by rw [← he2]; exact z3.2),
    fin _ _ (hx x3 (by simp)) (hy y3 (by simp)) (by rw [← he3]; exact z2.2), fin _ _ (hx x4 (by simp)) (hy y4 (by simp)) (by rw [← he4]; exact z1.2)⟩

/-- A change within four bytes side by side changes the sum, whatever is ahead and behind. -/
theorem burst (c : Nat) (p s : List Int) (x1 x2 x3 x4 y1 y2 y3 y4 : Int) (hc : c < 2 ^ 32) (hp : Bytes p) (hs : Bytes s) (hx : Bytes [x1, x2, x3, x4]) (hy : Bytes [y1, y2, y3, y4]) (hne : ¬ (x1 = y1 ∧ x2 = y2 ∧ x3 = y3 ∧ x4 = y4)) :
    run c (p ++ ([x1, x2, x3, x4] ++ s)) ≠ run c (p ++ ([y1, y2, y3, y4] ++ s)) := by
  rw [run_app, run_app, run_app, run_app]
  have h1 := run_lt p c hc hp
  exact run_ne s _ _ (run_lt _ _ h1 hx) (run_lt _ _ h1 hy) hs (fun e => hne (burst4 _ _ _ _ _ _ _ _ _ hx hy e))
/-- Two unlike bytes that change their places. -/
theorem swap2 (c : Nat) (x y : Int) (hx : Byte x) (hy : Byte y) (hne : x ≠ y) : run c [x, y] ≠ run c [y, x] := by
  intro e
  have b4 : Bytes [x, y, 0, 0] := fun b hb => by simp at hb; rcases hb with rfl | rfl | rfl <;> first | assumption | (unfold Byte; omega)
  have b4' : Bytes [y, x, 0, 0] := fun b hb => by simp at hb; rcases hb with rfl | rfl | rfl <;> first | assumption | (unfold Byte; omega)
  have h : run c [x, y, 0, 0] = run c [y, x, 0, 0] := by
    have e1 : [x, y, 0, 0] = [x, y] ++ [0, 0] := rfl
    have e2 : [y, x, 0, 0] = [y, x] ++ [0, 0] := rfl
    rw [e1, e2, run_app, run_app, e]
  exact hne (burst4 c x y 0 0 y x 0 0 b4 b4' h).1
theorem swap (c : Nat) (p s : List Int) (x y : Int) (hc : c < 2 ^ 32) (hp : Bytes p) (hs : Bytes s) (hx : Byte x) (hy : Byte y) (hne : x ≠ y) :
    run c (p ++ ([x, y] ++ s)) ≠ run c (p ++ ([y, x] ++ s)) := by
  rw [run_app, run_app, run_app, run_app]
  have h1 := run_lt p c hc hp
  have b1 : Bytes [x, y] := fun b hb => by simp at hb; rcases hb with rfl | rfl <;> assumption
  have b2 : Bytes [y, x] := fun b hb => by simp at hb; rcases hb with rfl | rfl <;> assumption
  exact run_ne s _ _ (run_lt _ _ h1 b1) (run_lt _ _ h1 b2) hs (swap2 _ x y hx hy hne)
/-- Three lists of one length, exclusive or'd: the state is the three states'. -/
def xor3 : List Int → List Int → List Int → List Int
  | a :: r, b :: s, c :: t => ((a.toNat ^^^ b.toNat ^^^ c.toNat : Nat) : Int) :: xor3 r s t
  | _, _, _ => []
theorem xor_swap (a b c d : Nat) : (a ^^^ b) ^^^ (c ^^^ d) = (a ^^^ c) ^^^ (b ^^^ d) := by
  rw [Nat.xor_assoc, ← Nat.xor_assoc b, Nat.xor_comm b c, Nat.xor_assoc c, ← Nat.xor_assoc]
theorem run_xor3 : ∀ (a b c : List Int) (x y z : Nat), a.length = b.length → a.length = c.length → run (x ^^^ y ^^^ z) (xor3 a b c) = run x a ^^^ run y b ^^^ run z c
  | [], [], [], x, y, z, _, _ => rfl
  | p :: a, q :: b, r :: c, x, y, z, h1, h2 => by
    have e : feed (x ^^^ y ^^^ z) ((p.toNat ^^^ q.toNat ^^^ r.toNat : Nat) : Int) = feed x p ^^^ feed y q ^^^ feed z r := by
      unfold feed step8
      rw [Int.toNat_natCast, ← steps_xor, ← steps_xor, xor_swap (x ^^^ y) z, xor_swap x y]
    show run (feed (x ^^^ y ^^^ z) _) (xor3 a b c) = _
    rw [e]
    exact run_xor3 a b c (feed x p) (feed y q) (feed z r) (by simpa using h1) (by simpa using h2)
  | [], [], _ :: _, _, _, _, _, h2 => by simp at h2
  | [], _ :: _, _, _, _, _, h1, _ => by simp at h1
  | _ :: _, [], _, _, _, _, h1, _ => by simp at h1
  | _ :: _, _ :: _, [], _, _, _, _, h2 => by simp at h2
end Go.Proofs.Ytcagodcmkjdahaa.Crc
