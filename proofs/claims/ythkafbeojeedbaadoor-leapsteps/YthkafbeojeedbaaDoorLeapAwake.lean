/-
  Layer 5's own first question (awake): it answers true, and turns nothing that was there.
-/
import Derived.Test.YthkafbeojeedbaaDoorLeapFit
import Derived.Test.YthkafbeojeedbaaDoorLeapTt
namespace Go.Proofs.YthkafbeojeedbaaDoor
open Go.RowKit
set_option linter.unusedVariables false

theorem some_any (w : World) : Calls Tryd.prog 18 #[] w fun e w' => e = .returned (.string (strOfNums someT)) ∧ w' = w := by
  go_enter Tryd.func18, Tryd.ntmps18
  go_wp2
  go_ret
  exact ⟨rfl, rfl⟩
def someTb : Tb := [(16983, 36), (17167, 37)]
theorem some_at : At someTb 1483228836 17166 86400 := ⟨by decide, by decide, by decide, by decide⟩
set_option maxRecDepth 4000 in
set_option maxHeartbeats 1000000 in
theorem awake_any (w : World) (hR : Ready w) (hE : LE w) : Calls Tryd.prog 9 #[] w fun e w' => e = .returned (.bool true) ∧ Below w.heap.size w w' := by
  have RR : Hid (Ready w) := hR
  have hg : GoodT someTb := parseTb_good some_parse
  obtain ⟨X, hX⟩ : ∃ X, X = strOfNums someT := ⟨_, rfl⟩
  have C0 : Hid (∀ w, Calls Tryd.prog 18 #[] w fun e w' => e = .returned (.string X) ∧ w' = w) := fun w => by rw [hX]; exact some_any w
  have C1 : Hid (Calls Tryd.prog 10 #[.string X] w fun e w' => (∃ p, e = .returned (.tuple #[.pointer (some p), .int .i64 0]) ∧ TB w' p someTb someT) ∧ Below w.heap.size w w') := by
    rw [hX]
    exact (lparse_any someT w hR hE (by decide) (by decide)).mono (by rintro e w' ⟨h, hb⟩; exact ⟨h.good _ some_parse, hb⟩)
  have C2 : Hid (∀ p u, TB u p someTb someT → Calls Tryd.prog 11 #[.pointer (some p), .int .i64 17166] u fun e w' => e = .returned (.tuple #[.int .i64 86401, .int .i64 0]) ∧ Below u.heap.size u w') := fun p u h => by
    have c := llen_any p someTb someT 17166 u h hg (by decide) (by decide)
    rw [if_pos (by decide), if_pos (by decide)] at c
    exact c
  have C3 : Hid (∀ p u, TB u p someTb someT → Calls Tryd.prog 12 #[.pointer (some p), .int .i64 17166, .int .i64 86400] u fun e w' => e = .returned (.tuple #[.int .i64 1483228836, .int .i64 0]) ∧ Below u.heap.size u w') := fun p u h => by
    have c := ltai_any p someTb someT 17166 86400 u h hg (by decide) (by decide) (by decide) (by decide)
    rw [if_pos (by decide), if_pos (by decide), if_pos (by decide)] at c
    exact c
  have C4 : Hid (∀ p u, TB u p someTb someT → Calls Tryd.prog 12 #[.pointer (some p), .int .i64 17167, .int .i64 0] u fun e w' => e = .returned (.tuple #[.int .i64 1483228837, .int .i64 0]) ∧ Below u.heap.size u w') := fun p u h => by
    have c := ltai_any p someTb someT 17167 0 u h hg (by decide) (by decide) (by decide) (by decide)
    rw [if_pos (by decide), if_pos (by decide), if_pos (by decide)] at c
    exact c
  have C5 : Hid (∀ p u, Ready u → TB u p someTb someT → Calls Tryd.prog 15 #[.pointer (some p), .int .i64 1483228836] u fun e w' => e = .returned (.string ⟨#[50, 48, 49, 54, 45, 49, 50, 45, 51, 49, 84, 50, 51, 58, 53, 57, 58, 54, 48, 90]⟩) ∧ Below u.heap.size u w') := fun p u r h =>
    (lclock_any p someTb someT 1483228836 u r h hg (by decide) (by decide)).mono (by rintro e w' ⟨⟨h1, _⟩, hb⟩; exact ⟨h1 17166 86400 2016 12 31 some_at (by decide) (by decide), hb⟩)
  have C6 : Hid (∀ p u, Ready u → TB u p someTb someT → Calls Tryd.prog 19 #[.pointer (some p)] u fun e w' => e = .returned (.string X) ∧ Below u.heap.size u w') := fun p u r h => by rw [hX]; exact ltext_any p someTb someT u r h hg
  have eX : (X.toList == X.toList) = true := by simp
  clear hX hR hE hg
  go_enter Tryd.func9, Tryd.ntmps9
  go_wp2_with (first | (go_at_call 18; refine (C0.out _).mono ?_; rintro e w0 ⟨rfl, hw⟩; obtain rfl := hw.symm; clear hw) | (go_at_call 19; refine (C6.out _ _ (RR.out.on B5.out) T5.out).mono ?_; rintro e w6 ⟨rfl, hb6⟩; have B6 : Hid (Below w.heap.size w w6) := B5.out.trans (hb6.mono B5.out.size); clear hb6) | (go_at_call 15; refine (C5.out _ _ (RR.out.on B4.out) T4.out).mono ?_; rintro e w5 ⟨rfl, hb5⟩; have B5 : Hid (Below w.heap.size w w5) := B4.out.trans (hb5.mono B4.out.size); have T5 : Hid (TB w5 p someTb someT) := T4.out.step hb5 (Nat.le_refl _); clear hb5) | (go_at_call 12; have hgo := B3.out; clear hgo; refine (C4.out _ _ T3.out).mono ?_; rintro e w4 ⟨rfl, hb4⟩; have B4 : Hid (Below w.heap.size w w4) := B3.out.trans (hb4.mono B3.out.size); have T4 : Hid (TB w4 p someTb someT) := T3.out.step hb4 (Nat.le_refl _); clear hb4) | (go_at_call 12; refine (C3.out _ _ T2.out).mono ?_; rintro e w3 ⟨rfl, hb3⟩; have B3 : Hid (Below w.heap.size w w3) := B2.out.trans (hb3.mono B2.out.size); have T3 : Hid (TB w3 p someTb someT) := T2.out.step hb3 (Nat.le_refl _); clear hb3) | (go_at_call 11; refine (C2.out _ _ T1.out).mono ?_; rintro e w2 ⟨rfl, hb2⟩; have B2 : Hid (Below w.heap.size w w2) := B1.out.trans (hb2.mono B1.out.size); have T2 : Hid (TB w2 p someTb someT) := T1.out.step hb2 (Nat.le_refl _); clear hb2) | (go_at_call 10; refine C1.out.mono ?_; rintro e w1 ⟨⟨p, rfl, ht1⟩, hb1⟩; have B1 : Hid (Below w.heap.size w w1) := hb1; have T1 : Hid (TB w1 p someTb someT) := ht1; clear hb1 ht1))
  go_ret
  exact ⟨rfl, B6.out⟩
theorem str_bytes (s : ByteArray) : ∃ xs : List Int, s = strOfNums xs ∧ (∀ z ∈ xs, 0 ≤ z ∧ z ≤ 255) ∧ xs.length = s.size := by
  refine ⟨s.data.toList.map fun b => (b.toNat : Int), ?_, ?_, ?_⟩
  · apply ByteArray.ext
    apply Array.ext'
    simp [strOfNums]
    rw [List.map_congr_left (g := id) (fun b _ => by simp)]
    simp
  · intro z hz
    simp only [List.mem_map] at hz
    obtain ⟨b, _, rfl⟩ := hz
    have := b.toNat_lt
    omega
  · rw [List.length_map, Array.length_toList]; rfl
/-- What a text is: no table, or one. -/
theorem parse_ways (s : ByteArray) (xs : List Int) (hs : s = strOfNums xs) (hb : ∀ z ∈ xs, 0 ≤ z ∧ z ≤ 255) (hl : xs.length ≤ 2000) (w : World) (hR : Ready w) (hE : LE w) :
    (∃ k : Int, (k = 2 ∨ k = 3) ∧ ∀ v, Below w.heap.size w v → Calls Tryd.prog 10 #[.string s] v fun e w' => e = .returned (.tuple #[.pointer none, .int .i64 k]) ∧ Below v.heap.size v w') ∨
    (∃ tb, GoodT tb ∧ parseTb xs = some tb ∧ ∀ v, Below w.heap.size w v → Calls Tryd.prog 10 #[.string s] v fun e w' => (∃ p, e = .returned (.tuple #[.pointer (some p), .int .i64 0]) ∧ TB w' p tb xs) ∧ Below v.heap.size v w') := by
  have C : ∀ v, Below w.heap.size w v → Calls Tryd.prog 10 #[.string s] v fun e w' => LRes xs e w' ∧ Below v.heap.size v w' := fun v h => by rw [hs]; exact lparse_any xs v (hR.on h) (hE.on h) hb hl
  by_cases h1 : 60 < (linesOf xs).1.length
  · exact .inl ⟨2, .inl rfl, fun v h => (C v h).mono (by rintro e w' ⟨h, hb⟩; exact ⟨h.many h1, hb⟩)⟩
  · cases hp : parseTb xs with
    | none => exact .inl ⟨3, .inr rfl, fun v h => (C v h).mono (by rintro e w' ⟨h, hb⟩; exact ⟨h.form (by omega) hp, hb⟩)⟩
    | some tb => exact .inr ⟨tb, parseTb_good hp, rfl, fun v h => (C v h).mono (by rintro e w' ⟨h, hb⟩; exact ⟨h.good tb hp, hb⟩)⟩
/-- A day's second counts, or not, for a reason. -/
theorem tai_ways (tb : Tb) (xs : List Int) (hg : GoodT tb) (day sec : Int) (h1 : -9223372036854775808 ≤ day) (h2 : day ≤ 9223372036854775807) (h3 : -9223372036854775808 ≤ sec) (h4 : sec ≤ 9223372036854775807) :
    (∃ t, At tb t day sec ∧ ∀ p u, TB u p tb xs → Calls Tryd.prog 12 #[.pointer (some p), .int .i64 day, .int .i64 sec] u fun e w' => e = .returned (.tuple #[.int .i64 t, .int .i64 0]) ∧ Below u.heap.size u w') ∨
    (∃ k : Int, (k = 1 ∨ k = 4) ∧ (k = 1 → Known tb day ∧ ¬ (0 ≤ sec ∧ sec < lenT tb day)) ∧ (k = 4 → ¬ Known tb day) ∧ ∀ p u, TB u p tb xs → Calls Tryd.prog 12 #[.pointer (some p), .int .i64 day, .int .i64 sec] u fun e w' => e = .returned (.tuple #[.int .i64 0, .int .i64 k]) ∧ Below u.heap.size u w') := by
  by_cases hk : Known tb day
  · by_cases hs : 0 ≤ sec ∧ sec < lenT tb day
    · refine .inl ⟨st tb day + sec, ⟨hk, hs.1, hs.2, rfl⟩, fun p u h => ?_⟩
      have c := ltai_any p tb xs day sec u h hg h1 h2 h3 h4
      rw [if_pos ⟨hk, hs⟩, if_pos hk, if_pos hs] at c
      exact c
    · refine .inr ⟨1, .inl rfl, fun _ => ⟨hk, hs⟩, fun h => by omega, fun p u h => ?_⟩
      have c := ltai_any p tb xs day sec u h hg h1 h2 h3 h4
      rw [if_neg (fun h => hs h.2), if_pos hk, if_neg hs] at c
      exact c
  · refine .inr ⟨4, .inr rfl, fun h => by omega, fun _ => hk, fun p u h => ?_⟩
    have c := ltai_any p tb xs day sec u h hg h1 h2 h3 h4
    rw [if_neg (fun h => hk h.1), if_neg hk] at c
    exact c
end Go.Proofs.YthkafbeojeedbaaDoor
