/-
  LeapKnown: what chapter 5 says of what is no table, of a second that was taken out, of what is none is answered so; conditions: the library's tables and its two errors hold what the program's own text lays (the card ties them, over the pruned copy).
-/
import Derived.Test.YthkafbeojeedbaaDoorRows
import Derived.Test.YthkafbeojeedbaaDoorLeapAwake
import Derived.Test.YthkafbeojeedbaaDoorCards
import Derived.Test.YthkafbeojeedbaaDoorTie
import Derived.Test.YthkafbeojeedbaaDoorCivilLaid
import Derived.Test.YthkafbeojeedbaaDoorLeapLaid
import Derived.WalkKit
import Derived.ProofKit
import Derived.OpenShut
import Derived.ShutString
import Derived.ChangeOld
import Derived.Below
import Derived.Carry
import Derived.SevenTiedAt
import Derived.SizedLaws
import Derived.JoinedAt
namespace Go.Proofs.YthkafbeojeedbaaDoor.leapKnown
open Go.ChangeShapes Go.WideShapes Go.ChangeAt Go.RowKit
open Go.ChangeMaps (open_string shut_string)
set_option linter.unusedVariables false

theorem own : ownKnob Tryd.prog.godebug = none := by kernel_rfl
theorem laidOut : laidOutB Tryd.prog = true := by kernel_rfl
/-- A slice of integers that came in: nil, or a row of 'cap' cells, of which the first 'len' are its elements. -/
def IsRow (k : IntKind) (w : World) (a : Option Addr) (len cap : Nat) (zs : List Int) : Prop :=
  (a = none ∧ len = 0 ∧ cap = 0 ∧ zs = []) ∨
  ∃ x, a = some x ∧ len ≤ cap ∧ cap ≤ maxLen ∧ zs.length = cap ∧ (∀ i, i < zs.length → w.cell? (x.add i) = some (.int k (zs.getD i 0))) ∧ ∀ n ∈ zs, (Lit.int k n).wf = true

theorem pl_36 : plN (txt 2016 7 1 ++ 32 :: ot 36) = some (16983, 36) := by rw [pl_line (by decide) (by decide)]; exact congrArg (fun z => some (z, 36)) (by decide)
theorem k_b : cnt [50, 48, 49, 54, 45, 48, 55, 45, 48, 49, 32, 51, 54] ≤ 60 ∧ parseTb [50, 48, 49, 54, 45, 48, 55, 45, 48, 49, 32, 51, 54] = none := by
  refine ⟨by decide, ?_⟩
  unfold parseTb
  rw [if_neg (by decide)]
theorem k_a : cnt [] ≤ 60 ∧ parseTb [] = none := by
  refine ⟨by decide, ?_⟩
  unfold parseTb
  rw [if_neg (by decide)]
theorem k_c : cnt [50, 48, 49, 54, 45, 48, 55, 45, 48, 49, 32, 51, 54, 10, 50, 48, 49, 55, 45, 48, 49, 45, 48, 49, 32, 51, 56, 10] ≤ 60 ∧ parseTb [50, 48, 49, 54, 45, 48, 55, 45, 48, 49, 32, 51, 54, 10, 50, 48, 49, 55, 45, 48, 49, 45, 48, 49, 32, 51, 56, 10] = none := by
  refine ⟨by decide, ?_⟩
  have hl : linesOf [50, 48, 49, 54, 45, 48, 55, 45, 48, 49, 32, 51, 54, 10, 50, 48, 49, 55, 45, 48, 49, 45, 48, 49, 32, 51, 56, 10] = ([txt 2016 7 1 ++ 32 :: ot 36, txt 2017 1 1 ++ 32 :: ot 38], []) := by decide
  rw [parse_lines hl (by simp) (by simp)]
  have e2 : plN (txt 2017 1 1 ++ 32 :: ot 38) = some (17167, 38) := by rw [pl_line (by decide) (by decide)]; exact congrArg (fun z => some (z, 38)) (by decide)
  rw [goN_cons (acc := []) pl_36 (fits_none _), List.nil_append]
  unfold goN
  rw [e2]
  simp [Fits]
theorem k_d : cnt [50, 48, 49, 54, 45, 48, 55, 45, 48, 49, 32, 51, 54, 10, 50, 48, 49, 54, 45, 48, 55, 45, 48, 49, 32, 51, 55, 10] ≤ 60 ∧ parseTb [50, 48, 49, 54, 45, 48, 55, 45, 48, 49, 32, 51, 54, 10, 50, 48, 49, 54, 45, 48, 55, 45, 48, 49, 32, 51, 55, 10] = none := by
  refine ⟨by decide, ?_⟩
  have hl : linesOf [50, 48, 49, 54, 45, 48, 55, 45, 48, 49, 32, 51, 54, 10, 50, 48, 49, 54, 45, 48, 55, 45, 48, 49, 32, 51, 55, 10] = ([txt 2016 7 1 ++ 32 :: ot 36, txt 2016 7 1 ++ 32 :: ot 37], []) := by decide
  rw [parse_lines hl (by simp) (by simp)]
  have e2 : plN (txt 2016 7 1 ++ 32 :: ot 37) = some (16983, 37) := by rw [pl_line (by decide) (by decide)]; exact congrArg (fun z => some (z, 37)) (by decide)
  rw [goN_cons (acc := []) pl_36 (fits_none _), List.nil_append]
  unfold goN
  rw [e2]
  simp [Fits]
theorem k_e : cnt [50, 48, 49, 54, 45, 48, 55, 45, 48, 49, 32, 48, 51, 54, 10] ≤ 60 ∧ parseTb [50, 48, 49, 54, 45, 48, 55, 45, 48, 49, 32, 48, 51, 54, 10] = none := by
  refine ⟨by decide, ?_⟩
  have hl : linesOf [50, 48, 49, 54, 45, 48, 55, 45, 48, 49, 32, 48, 51, 54, 10] = ([[50, 48, 49, 54, 45, 48, 55, 45, 48, 49, 32, 48, 51, 54]], []) := by decide
  rw [parse_lines hl (by simp) (by simp)]
  have e2 : plN [50, 48, 49, 54, 45, 48, 55, 45, 48, 49, 32, 48, 51, 54] = none := by
    have ho : offN [48, 51, 54] = none := by
      cases h : offN [48, 51, 54] with
      | none => rfl
      | some n =>
        have h1 := (off_cand h).2.2.2
        have h2 := (off_some h).2
        have e : n = 36 := by rw [← h1]; decide
        rw [e] at h2
        exact absurd h2 (by decide)
    unfold plN
    have hc : cutAt [50, 48, 49, 54, 45, 48, 55, 45, 48, 49, 32, 48, 51, 54] = 10 := by decide
    rw [if_neg (by decide), hc]
    have hd : ([50, 48, 49, 54, 45, 48, 55, 45, 48, 49, 32, 48, 51, 54] : List Int).drop (10 + 1) = [48, 51, 54] := by decide
    rw [hd, ho]
    cases parseN (([50, 48, 49, 54, 45, 48, 55, 45, 48, 49, 32, 48, 51, 54] : List Int).take 10) <;> rfl
  unfold goN
  rw [e2]
def knT : List Int := [50, 48, 49, 54, 45, 48, 55, 45, 48, 49, 32, 48, 10, 50, 48, 49, 55, 45, 48, 49, 45, 48, 49, 32, 45, 49, 10]
def knTb : Tb := [(16983, 0), (17167, -1)]
theorem k_t : parseTb knT = some knTb := by
  have hl : linesOf knT = ([txt 2016 7 1 ++ 32 :: ot 0, txt 2017 1 1 ++ 32 :: ot (-1)], []) := by decide
  rw [parse_lines hl (by simp) (by simp)]
  have e1 : plN (txt 2016 7 1 ++ 32 :: ot 0) = some (16983, 0) := by rw [pl_line (by decide) (by decide)]; exact congrArg (fun z => some (z, 0)) (by decide)
  have e2 : plN (txt 2017 1 1 ++ 32 :: ot (-1)) = some (17167, -1) := by rw [pl_line (by decide) (by decide)]; exact congrArg (fun z => some (z, -1)) (by decide)
  rw [goN_cons (acc := []) e1 (fits_none _), List.nil_append]
  unfold goN
  rw [e2]
  simp [Fits, goN, knTb]
theorem kn_no {t : Int} (hg : GoodT knTb) (h : t < -400000000000 ∨ 400000000000 < t) : ∀ day sec, ¬ At knTb t day sec := fun day sec ha => by
  have := at_range hg ha
  omega
set_option maxRecDepth 8000 in
set_option maxHeartbeats 4000000 in
theorem walk  (w : World) (hR : Ready w) (hE : LE w) :
    Calls Tryd.prog 3 #[] w fun e w' => e = .returned (.bool true) ∧ Below w.heap.size w w' := by
  have hg : GoodT knTb := parseTb_good k_t
  have AW : Hid (Calls Tryd.prog 9 #[] w fun e w' => e = .returned (.bool true) ∧ Below w.heap.size w w') := awake_any w hR hE
  have RR : Hid (Ready w) := hR
  have P2 : Hid (∀ v, Below w.heap.size w v → Calls Tryd.prog 10 #[.string ⟨#[]⟩] v fun e w' => e = .returned (.tuple #[.pointer none, .int .i64 3]) ∧ Below v.heap.size v w') := fun v h => (lparse_any [] v (hR.on h) (hE.on h) (by decide) (by decide)).mono (by rintro e w' ⟨h, hb⟩; exact ⟨h.form (Nat.le_trans (Nat.le_add_right _ _) k_a.1) k_a.2, hb⟩)
  have P3 : Hid (∀ v, Below w.heap.size w v → Calls Tryd.prog 10 #[.string ⟨#[50, 48, 49, 54, 45, 48, 55, 45, 48, 49, 32, 51, 54]⟩] v fun e w' => e = .returned (.tuple #[.pointer none, .int .i64 3]) ∧ Below v.heap.size v w') := fun v h => (lparse_any [50, 48, 49, 54, 45, 48, 55, 45, 48, 49, 32, 51, 54] v (hR.on h) (hE.on h) (by decide) (by decide)).mono (by rintro e w' ⟨h, hb⟩; exact ⟨h.form (Nat.le_trans (Nat.le_add_right _ _) k_b.1) k_b.2, hb⟩)
  have P4 : Hid (∀ v, Below w.heap.size w v → Calls Tryd.prog 10 #[.string ⟨#[50, 48, 49, 54, 45, 48, 55, 45, 48, 49, 32, 51, 54, 10, 50, 48, 49, 55, 45, 48, 49, 45, 48, 49, 32, 51, 56, 10]⟩] v fun e w' => e = .returned (.tuple #[.pointer none, .int .i64 3]) ∧ Below v.heap.size v w') := fun v h => (lparse_any [50, 48, 49, 54, 45, 48, 55, 45, 48, 49, 32, 51, 54, 10, 50, 48, 49, 55, 45, 48, 49, 45, 48, 49, 32, 51, 56, 10] v (hR.on h) (hE.on h) (by decide) (by decide)).mono (by rintro e w' ⟨h, hb⟩; exact ⟨h.form (Nat.le_trans (Nat.le_add_right _ _) k_c.1) k_c.2, hb⟩)
  have P5 : Hid (∀ v, Below w.heap.size w v → Calls Tryd.prog 10 #[.string ⟨#[50, 48, 49, 54, 45, 48, 55, 45, 48, 49, 32, 51, 54, 10, 50, 48, 49, 54, 45, 48, 55, 45, 48, 49, 32, 51, 55, 10]⟩] v fun e w' => e = .returned (.tuple #[.pointer none, .int .i64 3]) ∧ Below v.heap.size v w') := fun v h => (lparse_any [50, 48, 49, 54, 45, 48, 55, 45, 48, 49, 32, 51, 54, 10, 50, 48, 49, 54, 45, 48, 55, 45, 48, 49, 32, 51, 55, 10] v (hR.on h) (hE.on h) (by decide) (by decide)).mono (by rintro e w' ⟨h, hb⟩; exact ⟨h.form (Nat.le_trans (Nat.le_add_right _ _) k_d.1) k_d.2, hb⟩)
  have P6 : Hid (∀ v, Below w.heap.size w v → Calls Tryd.prog 10 #[.string ⟨#[50, 48, 49, 54, 45, 48, 55, 45, 48, 49, 32, 48, 51, 54, 10]⟩] v fun e w' => e = .returned (.tuple #[.pointer none, .int .i64 3]) ∧ Below v.heap.size v w') := fun v h => (lparse_any [50, 48, 49, 54, 45, 48, 55, 45, 48, 49, 32, 48, 51, 54, 10] v (hR.on h) (hE.on h) (by decide) (by decide)).mono (by rintro e w' ⟨h, hb⟩; exact ⟨h.form (Nat.le_trans (Nat.le_add_right _ _) k_e.1) k_e.2, hb⟩)
  have P7 : Hid (∀ v, Below w.heap.size w v → Calls Tryd.prog 10 #[.string ⟨#[50, 48, 49, 54, 45, 48, 55, 45, 48, 49, 32, 48, 10, 50, 48, 49, 55, 45, 48, 49, 45, 48, 49, 32, 45, 49, 10]⟩] v fun e w' => (∃ p, e = .returned (.tuple #[.pointer (some p), .int .i64 0]) ∧ TB w' p knTb knT) ∧ Below v.heap.size v w') := fun v h => (lparse_any knT v (hR.on h) (hE.on h) (by decide) (by decide)).mono (by rintro e w' ⟨h, hb⟩; exact ⟨h.good _ k_t, hb⟩)
  have P8 : Hid (∀ p u, TB u p knTb knT → Calls Tryd.prog 11 #[.pointer (some p), .int .i64 17166] u fun e w' => e = .returned (.tuple #[.int .i64 86399, .int .i64 0]) ∧ Below u.heap.size u w') := fun p u h => by have c := llen_any p knTb knT 17166 u h hg (by decide) (by decide); rw [if_pos (by decide), if_pos (by decide)] at c; exact c
  have P9 : Hid (∀ p u, TB u p knTb knT → Calls Tryd.prog 12 #[.pointer (some p), .int .i64 17166, .int .i64 86399] u fun e w' => e = .returned (.tuple #[.int .i64 0, .int .i64 1]) ∧ Below u.heap.size u w') := fun p u h => by have c := ltai_any p knTb knT 17166 86399 u h hg (by decide) (by decide) (by decide) (by decide); rw [if_neg (by decide), if_pos (by decide), if_neg (by decide)] at c; exact c
  have P10 : Hid (∀ p u, TB u p knTb knT → Calls Tryd.prog 12 #[.pointer (some p), .int .i64 17166, .int .i64 86398] u fun e w' => e = .returned (.tuple #[.int .i64 1483228798, .int .i64 0]) ∧ Below u.heap.size u w') := fun p u h => by have c := ltai_any p knTb knT 17166 86398 u h hg (by decide) (by decide) (by decide) (by decide); rw [if_pos (by decide), if_pos (by decide), if_pos (by decide)] at c; exact c
  have P11 : Hid (∀ p u, TB u p knTb knT → Calls Tryd.prog 13 #[.pointer (some p), .int .i64 1483228799] u fun e w' => e = .returned (.tuple #[.int .i64 17167, .int .i64 0, .int .i64 0]) ∧ Below u.heap.size u w') := fun p u h => (lutc_any p knTb knT 1483228799 u h hg (by decide) (by decide)).mono (by rintro e w' ⟨⟨h1, _⟩, hb⟩; exact ⟨h1 17167 0 ⟨by decide, by decide, by decide, by decide⟩, hb⟩)
  have P12 : Hid (∀ p u, TB u p knTb knT → Calls Tryd.prog 14 #[.pointer (some p), .int .i64 16982] u fun e w' => e = .returned (.tuple #[.int .i64 0, .int .i64 4]) ∧ Below u.heap.size u w') := fun p u h => by have c := loff_any p knTb knT 16982 u h hg (by decide) (by decide); rw [if_neg (by decide), if_neg (by decide)] at c; exact c
  have P13 : Hid (∀ p u, TB u p knTb knT → Calls Tryd.prog 13 #[.pointer (some p), .int .i64 9223372036854775807] u fun e w' => e = .returned (.tuple #[.int .i64 0, .int .i64 0, .int .i64 4]) ∧ Below u.heap.size u w') := fun p u h => (lutc_any p knTb knT 9223372036854775807 u h hg (by decide) (by decide)).mono (by rintro e w' ⟨⟨_, h2⟩, hb⟩; exact ⟨h2 (kn_no hg (by omega)), hb⟩)
  have P14 : Hid (∀ p u, Below w.heap.size w u → TB u p knTb knT → Calls Tryd.prog 15 #[.pointer (some p), .int .i64 (-9223372036854775808)] u fun e w' => e = .returned (.string ⟨#[]⟩) ∧ Below u.heap.size u w') := fun p u hbu h => (lclock_any p knTb knT (-9223372036854775808) u (RR.out.on hbu) h hg (by decide) (by decide)).mono (by rintro e w' ⟨⟨_, h2⟩, hb⟩; exact ⟨h2 (kn_no hg (by omega)), hb⟩)
  clear hR hE hg
  go_enter Tryd.func3, Tryd.ntmps3
  go_wp2_with (first | (go_at_call 15; have hgo := B13.out; clear hgo; refine (P14.out _ _ B13.out K13.out).mono ?_; rintro e v14 ⟨rfl, hb14⟩; have B14 : Hid (Below w.heap.size w v14) := B13.out.trans (hb14.mono B13.out.size); clear hb14) | (go_at_call 13; have hgo := K12.out; clear hgo; refine (P13.out _ _ K12.out).mono ?_; rintro e v13 ⟨rfl, hb13⟩; have B13 : Hid (Below w.heap.size w v13) := B12.out.trans (hb13.mono B12.out.size); have K13 : Hid (TB v13 p knTb knT) := K12.out.step hb13 (Nat.le_refl _); clear hb13) | (go_at_call 14; have hgo := K11.out; clear hgo; refine (P12.out _ _ K11.out).mono ?_; rintro e v12 ⟨rfl, hb12⟩; have B12 : Hid (Below w.heap.size w v12) := B11.out.trans (hb12.mono B11.out.size); have K12 : Hid (TB v12 p knTb knT) := K11.out.step hb12 (Nat.le_refl _); clear hb12) | (go_at_call 13; have hgo := K10.out; clear hgo; refine (P11.out _ _ K10.out).mono ?_; rintro e v11 ⟨rfl, hb11⟩; have B11 : Hid (Below w.heap.size w v11) := B10.out.trans (hb11.mono B10.out.size); have K11 : Hid (TB v11 p knTb knT) := K10.out.step hb11 (Nat.le_refl _); clear hb11) | (go_at_call 12; have hgo := K9.out; clear hgo; refine (P10.out _ _ K9.out).mono ?_; rintro e v10 ⟨rfl, hb10⟩; have B10 : Hid (Below w.heap.size w v10) := B9.out.trans (hb10.mono B9.out.size); have K10 : Hid (TB v10 p knTb knT) := K9.out.step hb10 (Nat.le_refl _); clear hb10) | (go_at_call 12; have hgo := K8.out; clear hgo; refine (P9.out _ _ K8.out).mono ?_; rintro e v9 ⟨rfl, hb9⟩; have B9 : Hid (Below w.heap.size w v9) := B8.out.trans (hb9.mono B8.out.size); have K9 : Hid (TB v9 p knTb knT) := K8.out.step hb9 (Nat.le_refl _); clear hb9) | (go_at_call 11; have hgo := K7.out; clear hgo; refine (P8.out _ _ K7.out).mono ?_; rintro e v8 ⟨rfl, hb8⟩; have B8 : Hid (Below w.heap.size w v8) := B7.out.trans (hb8.mono B7.out.size); have K8 : Hid (TB v8 p knTb knT) := K7.out.step hb8 (Nat.le_refl _); clear hb8) | (go_at_call 10; have hgo := B6.out; clear hgo; refine (P7.out _ B6.out).mono ?_; rintro e v7 ⟨⟨p, rfl, ht7⟩, hb7⟩; have B7 : Hid (Below w.heap.size w v7) := B6.out.trans (hb7.mono B6.out.size); have K7 : Hid (TB v7 p knTb knT) := ht7; clear hb7 ht7) | (go_at_call 10; have hgo := B5.out; clear hgo; refine (P6.out _ B5.out).mono ?_; rintro e v6 ⟨rfl, hb6⟩; have B6 : Hid (Below w.heap.size w v6) := B5.out.trans (hb6.mono B5.out.size); clear hb6) | (go_at_call 10; have hgo := B4.out; clear hgo; refine (P5.out _ B4.out).mono ?_; rintro e v5 ⟨rfl, hb5⟩; have B5 : Hid (Below w.heap.size w v5) := B4.out.trans (hb5.mono B4.out.size); clear hb5) | (go_at_call 10; have hgo := B3.out; clear hgo; refine (P4.out _ B3.out).mono ?_; rintro e v4 ⟨rfl, hb4⟩; have B4 : Hid (Below w.heap.size w v4) := B3.out.trans (hb4.mono B3.out.size); clear hb4) | (go_at_call 10; have hgo := B2.out; clear hgo; refine (P3.out _ B2.out).mono ?_; rintro e v3 ⟨rfl, hb3⟩; have B3 : Hid (Below w.heap.size w v3) := B2.out.trans (hb3.mono B2.out.size); clear hb3) | (go_at_call 10; have hgo := B1.out; clear hgo; refine (P2.out _ B1.out).mono ?_; rintro e v2 ⟨rfl, hb2⟩; have B2 : Hid (Below w.heap.size w v2) := B1.out.trans (hb2.mono B1.out.size); clear hb2) | (go_at_call 9; refine AW.out.mono ?_; rintro e v1 ⟨rfl, hb1⟩; have B1 : Hid (Below w.heap.size w v1) := hb1; clear hb1))
  go_ret
  exact ⟨rfl, B14.out⟩

set_option maxRecDepth 100000 in
theorem lifted (os : Os) (started : os.Started) (H : Type) (enc : TypeId × Value → H) :
    ReturnsInHanded {} Tryd.checked os 3 .any (fun w args => (Rows.leapKnownSpec.pre enc Tryd.prog Tryd.f3 Rows.leapKnownRow.domain false w args ∧ laidMet Tryd.prog laid5 w) ∧ sizedMet enc Tryd.prog Tryd.f3 (OpenSpec.ofChange Rows.leapKnownSpec) false w args)
      (Rows.leapKnownSpec.post enc Tryd.prog Tryd.f3 false true false false) := by
  refine returnsInHanded_of_change_and (C := Tryd.checked) (X := fun w _ => laidMet Tryd.prog laid5 w) (fun _ _ _ hh h => h.of_heap hh) own started (by kernel_rfl) Tryd.func3
    (ChangeSpec.witness_at (enc := enc) (C := Tryd.checked) (os := os) (X := fun w _ => laidMet Tryd.prog laid5 w) false (laidWorld5 os) #[] 8 rfl (by kernel_rfl) (by kernel_rfl) (by kernel_rfl) (by kernel_rfl) (by kernel_rfl) (laid5_met os _)) ?_
  intro W base args ds gs before hval0 hW _ _ hL _
  have hval : ∀ (j : Nat) t v, Tryd.f3.params[j]? = some t → args[j]? = some v → Value.okWide Tryd.prog W .any base t v := hval0
  have hW' := hW
  obtain ⟨p, q, hA0, hV, rfl, hfz, hnd⟩ := hW
  have hA : DataW.TrodAll enc Tryd.prog W 0 (fun _ => true) true Tryd.f3.params.toList args.toList ds p := hA0
  rw [Tryd.params3] at hA hval
  obtain ⟨hargs, rfl, rfl⟩ := trodAll_nil hA
  obtain rfl : args = #[] := by cases args; simp_all
  obtain ⟨rfl, rfl⟩ := trodVars_none hV
  clear hA0 hval0
  refine (walk  W  (ready_of hL) (le_of hL)).mono fun e W' ⟨he, bel⟩ => ?_
  subst he
  exact ⟨_, rfl, _, _, _, [], _, [], hW', trodAll_mk1 (shut_bool Tryd.underlying4 _), trodAll_mk0, rfl, bel.frame _, fun h => by cases h⟩

theorem over : Rows.leapKnownRow.holds Tryd.pinned (OpenSpec.ofChange Rows.leapKnownSpec) :=
  OpenClaim.holds_of_wide 3 Tryd.f3 rfl rfl rfl rfl rfl rfl rfl ⟨rfl, rfl, rfl, rfl, rfl⟩ rfl rfl rfl rfl rfl (by kernel_rfl) Tryd.func3 (by kernel_rfl)
    (of_decide_eq_true (by kernel_rfl)) (by unfold Func.isWrapper; first | (rw [if_pos (by decide +kernel)]; kernel_rfl) | (rw [if_neg (by decide +kernel)]; exact ⟨rfl, rfl⟩))
    (fun os started H enc _ => lifted os started H enc)
theorem carded : Rows.LeapKnownCardSaid :=
  Claim7.holds_tied_plain_at .later [] [.data, .data, .data, .sentinel, .sentinel] true (true, "72f713a098904629023c27e22fcd14849cabfc9045bb6cfdb3350a65775f249f") true
    over (fun _ h => by cases h) (by kernel_rfl) (fun _ h => by cases h) leapKnown_row_tie rfl ⟨rfl, rfl⟩ (by kernel_rfl) rfl
    (fun f fn hf hfn => by
      obtain rfl : f = 3 := Option.some.inj ((show Tryd.prog.funcNamed "hourglass/hourglasslaw5.LeapKnown" = some 3 by kernel_rfl).symm.trans hf) |>.symm
      obtain rfl : fn = Tryd.f3 := (Option.some.inj (Tryd.func3.symm.trans hfn)).symm
      exact ⟨by kernel_rfl, fun j t ht => by
        rw [Tryd.params3] at ht
        exact absurd ht (by simp)⟩)
    (by kernel_rfl)
#print axioms carded
end Go.Proofs.YthkafbeojeedbaaDoor.leapKnown
namespace Go.Proofs.YthkafbeojeedbaaDoor
/-- LeapKnown, as given. -/
theorem leapKnown_holds : Rows.LeapKnownCardSaid := leapKnown.carded
end Go.Proofs.YthkafbeojeedbaaDoor
