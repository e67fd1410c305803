/-
  DiscMiddle: what is taken of every list of samples is the middle one of those held.
-/
import Derived.Test.YtmibmblgaofikaaRows
import Derived.Test.YtmibmblgaofikaaDiscPlay
import Derived.WalkKit
import Derived.ProofKit
import Derived.OpenShut
import Derived.ShutString
import Derived.ChangeOld
import Derived.Below
import Derived.Carry
namespace Go.Proofs.Ytmibmblgaofikaa.discMiddle
open Go.ChangeShapes Go.WideShapes Go.ChangeAt Go.RowKit
open Go.ChangeMaps (open_string shut_string)
set_option linter.unusedVariables false

theorem own : ownKnob Try.prog.godebug = none := by kernel_rfl
theorem laidOut : laidOutB Try.prog = true := by kernel_rfl
/-- A slice of integers that came in: nil, or a row of 'cap' cells, of which the first 'len' are its elements. -/
def IsRow (k : IntKind) (w : World) (a : Option Addr) (len cap : Nat) (zs : List Int) : Prop :=
  (a = none ∧ len = 0 ∧ cap = 0 ∧ zs = []) ∨
  ∃ x, a = some x ∧ len ≤ cap ∧ cap ≤ maxLen ∧ zs.length = cap ∧ (∀ i, i < zs.length → w.cell? (x.add i) = some (.int k (zs.getD i 0))) ∧ ∀ n ∈ zs, (Lit.int k n).wf = true

def cntP (p : Int → Bool) (zs : List Int) (i : Nat) : Nat := ((zs.take i).map held40).countP p
theorem cnt_next (p : Int → Bool) (zs : List Int) (i : Nat) (h : i < zs.length) : cntP p zs (i + 1) = cntP p zs i + if p (held40 (zs.getD i 0)) = true then 1 else 0 := by
  have e : zs.take (i + 1) = zs.take i ++ [zs.getD i 0] := by
    rw [List.take_add_one]
    simp [List.getD, h]
  unfold cntP
  rw [e, List.map_append, List.countP_append]
  simp [List.countP_cons]
theorem cnt_le (p : Int → Bool) (zs : List Int) (i : Nat) : cntP p zs i ≤ i := by
  unfold cntP
  refine Nat.le_trans List.countP_le_length ?_
  simp
  omega
def isN (M : Int) (zs : List Int) (i : Nat) : Bool := decide (M ∈ (zs.take i).map held40)
theorem is_next (M : Int) (zs : List Int) (i : Nat) (h : i < zs.length) : isN M zs (i + 1) = (isN M zs i || decide (held40 (zs.getD i 0) = M)) := by
  have e : zs.take (i + 1) = zs.take i ++ [zs.getD i 0] := by
    rw [List.take_add_one]
    simp [List.getD, h]
  unfold isN
  rw [e, List.map_append, ← Bool.decide_or]
  apply decide_eq_decide.2
  simp [eq_comm]
set_option maxRecDepth 4000 in
set_option maxHeartbeats 4000000 in
theorem walk (a0 : Option Addr) (len0 cap0 : Nat) (z0 : List Int) (w : World) (w0 : IsRow .i64 w a0 len0 cap0 z0) :
    Calls Try.prog 6 #[.slice a0 len0 cap0] w fun e w' => e = .returned (.bool true) ∧ Below w.heap.size w w' := by
  have AW : Hid (∀ u, Calls Try.prog 9 #[] u fun e w' => e = .returned (.bool true) ∧ Below u.heap.size u w') := fun u => awake_any u
  have CN : Hid (∀ u, Below w.heap.size w u → Calls Try.prog 10 #[.int .u8 1, .int .i64 (-1)] u fun e w' => ∃ b, e = .returned (.tuple #[.pointer (some ⟨b, 0, none⟩), .int .i64 0]) ∧ Play w w' b 1 (-1) 0) := fun u hb => (dnew_ok 1 (-1) u (by omega) (by omega) (by omega)).mono (by rintro e u' ⟨b, rfl, h1, h2, h3⟩; exact ⟨b, rfl, Play.made hb h1 h2 h3⟩)
  obtain ⟨xs, hxl, hcap, hx⟩ := row64_in w0
  by_cases h0 : len0 < 1
  · have b0 : decide ((len0 : Int) < 1) = true := decide_eq_true (by omega)
    clear w0 hx hxl hcap
    obtain rfl : len0 = 0 := by omega
    go_enter Try.func6, Try.ntmps6
    go_wp2_with (go_at_call 9; refine (AW.out _).mono ?_; rintro e v1 ⟨rfl, hb1⟩; have B1 : Hid (Below w.heap.size w v1) := hb1; clear hb1)
    go_ret
    exact ⟨rfl, B1.out⟩
  · have b0 : decide ((len0 : Int) < 1) = false := decide_eq_false (by omega)
    by_cases h1 : 64 < len0
    · have b1 : (64 : Int) < (len0 : Int) := by omega
      clear w0 hx hxl hcap
      go_enter Try.func6, Try.ntmps6
      go_wp2_with (go_at_call 9; refine (AW.out _).mono ?_; rintro e v1 ⟨rfl, hb1⟩; have B1 : Hid (Below w.heap.size w v1) := hb1; clear hb1)
      go_ret
      exact ⟨rfl, B1.out⟩
    · have b1 : ¬ (64 : Int) < (len0 : Int) := by omega
      obtain ⟨M, hM⟩ : ∃ M, M = midN xs := ⟨_, rfl⟩
      have CS : Hid (∀ u b, Play w u b 1 (-1) 0 → Calls Try.prog 11 #[.pointer (some ⟨b, 0, none⟩), .slice a0 len0 cap0] u fun e w' => e = .returned (.int .i64 M) ∧ Below w.heap.size w w') := fun u b p => by
        have c := dsample_in b 1 (-1) 0 a0 cap0 xs u p.ck (hx.step p.below) (by omega) (by omega) (by omega)
        rw [hxl, ← hM] at c
        refine c.mono ?_
        rintro e u' ⟨rfl, hg⟩
        exact ⟨rfl, (p.went hg).below⟩
      have hne : xs ≠ [] := by intro h; rw [h] at hxl; simp at hxl; omega
      have mc := mid_counts xs hne
      have mr := mid_range xs hne
      rw [← hM] at mc mr
      have F1 : Hid (2 * cntP (fun z => decide (z < M)) xs len0 ≤ len0 - 1) := by
        show _ ≤ _
        unfold cntP; rw [← hxl, List.take_length]; exact mc.1
      have F2 : Hid (2 * cntP (fun z => decide (M < z)) xs len0 ≤ len0) := by
        show _ ≤ _
        unfold cntP; rw [← hxl, List.take_length]; exact mc.2.1
      have F3 : Hid (isN M xs len0 = true) := by
        show _ = _
        unfold isN; rw [← hxl, List.take_length]; exact decide_eq_true mc.2.2
      have HX : Hid (Row64 w a0 xs) := hx
      have HXL : Hid (xs.length = len0) := hxl
      clear w0 hx hxl hcap hM hne mc
      go_enter Try.func6, Try.ntmps6
      go_wp2_with (first | (go_at_call 11; refine (CS.out _ _ P2.out).mono ?_; rintro e v3 ⟨rfl, hp3⟩; have B3 : Hid (Below w.heap.size w v3) := hp3; clear hp3) | (go_at_call 10; refine (CN.out _ B1.out).mono ?_; rintro e v2 ⟨b, rfl, hp2⟩; have P2 : Hid (Play w v2 b 1 (-1) 0) := hp2; clear hp2) | (go_at_call 9; refine (AW.out _).mono ?_; rintro e v1 ⟨rfl, hb1⟩; have B1 : Hid (Below w.heap.size w v1) := hb1; clear hb1))
      go_loopw [6, 7, 8, 9] (fun bv av sv iv wr => ∃ i : Nat, iv = .int .i64 i ∧ bv = .int .i64 (cntP (fun z => decide (z < M)) xs i : Nat) ∧ av = .int .i64 (cntP (fun z => decide (M < z)) xs i : Nat) ∧ sv = .bool (isN M xs i) ∧ i ≤ len0 ∧ Hid (Below w.heap.size w wr)) (fun _ _ _ iv _ => len0 - (intOf iv).toNat)
      case atStart => exact ⟨0, rfl, rfl, rfl, rfl, by omega, B3⟩
      case round =>
        obtain ⟨i, rfl, rfl, rfl, rfl, hi, BW⟩ := hrel
        by_cases hlt : i < len0
        · obtain ⟨ba, oa, Y, rfl, hY, y1, y2, hc⟩ := HX.out.at (i := i) (by rw [HXL.out]; exact hlt)
          have ci := hc _ BW.out
          obtain ⟨V, hV⟩ : ∃ V, V = held40 Y := ⟨_, rfl⟩
          have NB : Hid (cntP (fun z => decide (z < M)) xs (i + 1) = cntP (fun z => decide (z < M)) xs i + if V < M then 1 else 0) := by
            show _ = _
            rw [cnt_next _ xs i (by rw [HXL.out]; exact hlt), ← hY, ← hV]
            simp
          have NA : Hid (cntP (fun z => decide (M < z)) xs (i + 1) = cntP (fun z => decide (M < z)) xs i + if M < V then 1 else 0) := by
            show _ = _
            rw [cnt_next _ xs i (by rw [HXL.out]; exact hlt), ← hY, ← hV]
            simp
          have NI : Hid (isN M xs (i + 1) = (isN M xs i || decide (V = M))) := by
            show _ = _
            rw [is_next M xs i (by rw [HXL.out]; exact hlt), ← hY, ← hV]
          have bb := cnt_le (fun z => decide (z < M)) xs i
          have ba' := cnt_le (fun z => decide (M < z)) xs i
          have hV3 : (1099511627776 < Y ∧ V = 1099511627776) ∨ (Y < -1099511627776 ∧ V = -1099511627776) ∨ (-1099511627776 ≤ Y ∧ Y ≤ 1099511627776 ∧ V = Y) := by
            rw [hV]; unfold held40 hold; (repeat' split) <;> omega
          obtain ⟨B, hB⟩ : ∃ B, B = cntP (fun z => decide (z < M)) xs i := ⟨_, rfl⟩
          obtain ⟨A, hA⟩ : ∃ A, A = cntP (fun z => decide (M < z)) xs i := ⟨_, rfl⟩
          obtain ⟨I, hI⟩ : ∃ I, I = isN M xs i := ⟨_, rfl⟩
          rw [← hB] at bb NB
          rw [← hA] at ba' NA
          rw [← hI] at NI
          rw [← hB, ← hA, ← hI]
          clear hc hY hV hB hA hI
          rcases hV3 with ⟨g1, g2⟩ | ⟨g1, g2⟩ | ⟨g1, g1', g2⟩
          · subst g2
            have d1 : decide (1099511627776 < Y) = true := decide_eq_true g1
            by_cases hvm : 1099511627776 < M
            · have e1 : decide (1099511627776 < M) = true := by simp; omega
              have e2 : decide (M < 1099511627776) = false := by simp; omega
              have e3 : (1099511627776 == M) = false := by simp; omega
              have e4 : decide (1099511627776 = M) = false := by simp; omega
              have n1 : Hid (cntP (fun z => decide (z < M)) xs (i + 1) = B + 1) := by have := NB.out; rw [if_pos (by omega)] at this; exact this
              have n2 : Hid (cntP (fun z => decide (M < z)) xs (i + 1) = A + 0) := by have := NA.out; rw [if_neg (by omega)] at this; exact this
              have n3 : Hid (isN M xs (i + 1) = (I || false)) := by have := NI.out; rw [e4] at this; exact this
              clear NB NA NI
              cases I
              all_goals
                go_wp2
                exact ⟨⟨i + 1, by simp, by rw [n1.out]; simp, by rw [n2.out]; simp, by rw [n3.out]; rfl, by omega, BW⟩, by simp [intOf]; omega⟩
            · by_cases hmv : M < 1099511627776
              · have e1 : decide (1099511627776 < M) = false := by simp; omega
                have e2 : decide (M < 1099511627776) = true := by simp; omega
                have e3 : (1099511627776 == M) = false := by simp; omega
                have e4 : decide (1099511627776 = M) = false := by simp; omega
                have n1 : Hid (cntP (fun z => decide (z < M)) xs (i + 1) = B + 0) := by have := NB.out; rw [if_neg (by omega)] at this; exact this
                have n2 : Hid (cntP (fun z => decide (M < z)) xs (i + 1) = A + 1) := by have := NA.out; rw [if_pos (by omega)] at this; exact this
                have n3 : Hid (isN M xs (i + 1) = (I || false)) := by have := NI.out; rw [e4] at this; exact this
                clear NB NA NI
                cases I
                all_goals
                  go_wp2
                  exact ⟨⟨i + 1, by simp, by rw [n1.out]; simp, by rw [n2.out]; simp, by rw [n3.out]; rfl, by omega, BW⟩, by simp [intOf]; omega⟩
              · have e1 : decide (1099511627776 < M) = false := by simp; omega
                have e2 : decide (M < 1099511627776) = false := by simp; omega
                have e3 : (1099511627776 == M) = true := by simp; omega
                have e4 : decide (1099511627776 = M) = true := by simp; omega
                have n1 : Hid (cntP (fun z => decide (z < M)) xs (i + 1) = B + 0) := by have := NB.out; rw [if_neg (by omega)] at this; exact this
                have n2 : Hid (cntP (fun z => decide (M < z)) xs (i + 1) = A + 0) := by have := NA.out; rw [if_neg (by omega)] at this; exact this
                have n3 : Hid (isN M xs (i + 1) = (I || true)) := by have := NI.out; rw [e4] at this; exact this
                clear NB NA NI
                cases I
                all_goals
                  go_wp2
                  exact ⟨⟨i + 1, by simp, by rw [n1.out]; simp, by rw [n2.out]; simp, by rw [n3.out]; rfl, by omega, BW⟩, by simp [intOf]; omega⟩
          · subst g2
            have d1 : decide (1099511627776 < Y) = false := decide_eq_false (by omega)
            have d2 : decide (Y < -1099511627776) = true := decide_eq_true g1
            by_cases hvm : -1099511627776 < M
            · have e1 : decide (-1099511627776 < M) = true := by simp; omega
              have e2 : decide (M < -1099511627776) = false := by simp; omega
              have e3 : (-1099511627776 == M) = false := by simp; omega
              have e4 : decide (-1099511627776 = M) = false := by simp; omega
              have n1 : Hid (cntP (fun z => decide (z < M)) xs (i + 1) = B + 1) := by have := NB.out; rw [if_pos (by omega)] at this; exact this
              have n2 : Hid (cntP (fun z => decide (M < z)) xs (i + 1) = A + 0) := by have := NA.out; rw [if_neg (by omega)] at this; exact this
              have n3 : Hid (isN M xs (i + 1) = (I || false)) := by have := NI.out; rw [e4] at this; exact this
              clear NB NA NI
              cases I
              all_goals
                go_wp2
                exact ⟨⟨i + 1, by simp, by rw [n1.out]; simp, by rw [n2.out]; simp, by rw [n3.out]; rfl, by omega, BW⟩, by simp [intOf]; omega⟩
            · by_cases hmv : M < -1099511627776
              · have e1 : decide (-1099511627776 < M) = false := by simp; omega
                have e2 : decide (M < -1099511627776) = true := by simp; omega
                have e3 : (-1099511627776 == M) = false := by simp; omega
                have e4 : decide (-1099511627776 = M) = false := by simp; omega
                have n1 : Hid (cntP (fun z => decide (z < M)) xs (i + 1) = B + 0) := by have := NB.out; rw [if_neg (by omega)] at this; exact this
                have n2 : Hid (cntP (fun z => decide (M < z)) xs (i + 1) = A + 1) := by have := NA.out; rw [if_pos (by omega)] at this; exact this
                have n3 : Hid (isN M xs (i + 1) = (I || false)) := by have := NI.out; rw [e4] at this; exact this
                clear NB NA NI
                cases I
                all_goals
                  go_wp2
                  exact ⟨⟨i + 1, by simp, by rw [n1.out]; simp, by rw [n2.out]; simp, by rw [n3.out]; rfl, by omega, BW⟩, by simp [intOf]; omega⟩
              · have e1 : decide (-1099511627776 < M) = false := by simp; omega
                have e2 : decide (M < -1099511627776) = false := by simp; omega
                have e3 : (-1099511627776 == M) = true := by simp; omega
                have e4 : decide (-1099511627776 = M) = true := by simp; omega
                have n1 : Hid (cntP (fun z => decide (z < M)) xs (i + 1) = B + 0) := by have := NB.out; rw [if_neg (by omega)] at this; exact this
                have n2 : Hid (cntP (fun z => decide (M < z)) xs (i + 1) = A + 0) := by have := NA.out; rw [if_neg (by omega)] at this; exact this
                have n3 : Hid (isN M xs (i + 1) = (I || true)) := by have := NI.out; rw [e4] at this; exact this
                clear NB NA NI
                cases I
                all_goals
                  go_wp2
                  exact ⟨⟨i + 1, by simp, by rw [n1.out]; simp, by rw [n2.out]; simp, by rw [n3.out]; rfl, by omega, BW⟩, by simp [intOf]; omega⟩
          · subst g2
            have d1 : decide (1099511627776 < V) = false := decide_eq_false (by omega)
            have d2 : decide (V < -1099511627776) = false := decide_eq_false (by omega)
            by_cases hvm : V < M
            · have e1 : decide (V < M) = true := by simp; omega
              have e2 : decide (M < V) = false := by simp; omega
              have e3 : (V == M) = false := by simp; omega
              have e4 : decide (V = M) = false := by simp; omega
              have n1 : Hid (cntP (fun z => decide (z < M)) xs (i + 1) = B + 1) := by have := NB.out; rw [if_pos (by omega)] at this; exact this
              have n2 : Hid (cntP (fun z => decide (M < z)) xs (i + 1) = A + 0) := by have := NA.out; rw [if_neg (by omega)] at this; exact this
              have n3 : Hid (isN M xs (i + 1) = (I || false)) := by have := NI.out; rw [e4] at this; exact this
              clear NB NA NI
              cases I
              all_goals
                go_wp2
                exact ⟨⟨i + 1, by simp, by rw [n1.out]; simp, by rw [n2.out]; simp, by rw [n3.out]; rfl, by omega, BW⟩, by simp [intOf]; omega⟩
            · by_cases hmv : M < V
              · have e1 : decide (V < M) = false := by simp; omega
                have e2 : decide (M < V) = true := by simp; omega
                have e3 : (V == M) = false := by simp; omega
                have e4 : decide (V = M) = false := by simp; omega
                have n1 : Hid (cntP (fun z => decide (z < M)) xs (i + 1) = B + 0) := by have := NB.out; rw [if_neg (by omega)] at this; exact this
                have n2 : Hid (cntP (fun z => decide (M < z)) xs (i + 1) = A + 1) := by have := NA.out; rw [if_pos (by omega)] at this; exact this
                have n3 : Hid (isN M xs (i + 1) = (I || false)) := by have := NI.out; rw [e4] at this; exact this
                clear NB NA NI
                cases I
                all_goals
                  go_wp2
                  exact ⟨⟨i + 1, by simp, by rw [n1.out]; simp, by rw [n2.out]; simp, by rw [n3.out]; rfl, by omega, BW⟩, by simp [intOf]; omega⟩
              · have e1 : decide (V < M) = false := by simp; omega
                have e2 : decide (M < V) = false := by simp; omega
                have e3 : (V == M) = true := by simp; omega
                have e4 : decide (V = M) = true := by simp; omega
                have n1 : Hid (cntP (fun z => decide (z < M)) xs (i + 1) = B + 0) := by have := NB.out; rw [if_neg (by omega)] at this; exact this
                have n2 : Hid (cntP (fun z => decide (M < z)) xs (i + 1) = A + 0) := by have := NA.out; rw [if_neg (by omega)] at this; exact this
                have n3 : Hid (isN M xs (i + 1) = (I || true)) := by have := NI.out; rw [e4] at this; exact this
                clear NB NA NI
                cases I
                all_goals
                  go_wp2
                  exact ⟨⟨i + 1, by simp, by rw [n1.out]; simp, by rw [n2.out]; simp, by rw [n3.out]; rfl, by omega, BW⟩, by simp [intOf]; omega⟩
        · obtain rfl : i = len0 := by omega
          have f1 := F1.out
          have f2 := F2.out
          obtain ⟨B, hB⟩ : ∃ B, B = cntP (fun z => decide (z < M)) xs i := ⟨_, rfl⟩
          obtain ⟨A, hA⟩ : ∃ A, A = cntP (fun z => decide (M < z)) xs i := ⟨_, rfl⟩
          rw [← hB] at f1 ⊢
          rw [← hA] at f2 ⊢
          rw [F3.out]
          have e1 : decide (2 * (B : Int) ≤ (i : Int) - 1) = true := decide_eq_true (by omega)
          have e2 : decide (2 * (A : Int) ≤ (i : Int)) = true := decide_eq_true (by omega)
          clear hB hA
          go_wp2
          go_ret
          exact ⟨rfl, BW.out⟩

set_option maxRecDepth 100000 in
theorem lifted (os : Os) (started : os.Started) (H : Type) (enc : TypeId × Value → H) :
    ReturnsInHanded {} Try.checked os 6 .any (Rows.discMiddleSpec.pre6 enc Try.prog Try.f6 Rows.discMiddleRow.domain false) (Rows.discMiddleSpec.post enc Try.prog Try.f6 false true false false) := by
  refine returnsInHanded_of_change (C := Try.checked) own started (by kernel_rfl) Try.func6
    (ChangeSpec.witness6 (enc := enc) (C := Try.checked) false ⟨#[], #[.slice none 0 0], []⟩ 8 (by kernel_rfl) (by kernel_rfl) (by kernel_rfl) (by kernel_rfl)) ?_
  intro W base args ds gs before hval0 hW hcnd _
  have hval : ∀ (j : Nat) t v, Try.f6.params[j]? = some t → args[j]? = some v → Value.okWide Try.prog W .any base t v := hval0
  have hW' := hW
  obtain ⟨p, q, hA0, hV, rfl, hfz, hnd⟩ := hW
  have hA : DataW.TrodAll enc Try.prog W 0 (fun _ => true) true Try.f6.params.toList args.toList ds p := hA0
  rw [Try.params6] at hA hval
  obtain ⟨v0, vs0, d0, ds0, p0, q0, hargs, rfl, rfl, h0, r0⟩ := trodAll_cons hA
  obtain ⟨rfl, rfl, rfl⟩ := trodAll_nil r0
  obtain rfl : args = #[v0] := by cases args; simp_all
  obtain ⟨rfl, rfl⟩ := trodVars_none hV
  obtain ⟨a0, len0, cap0, rfl⟩ := okWide_slice Try.underlying28 (hval 0 28 v0 rfl rfl)
  have k0 := h0
  have lt0 : ∀ x ∈ p0, x.block < W.heap.size := by obtain ⟨m, hm⟩ := k0; exact DataW.trod_lt m _ _ _ hm
  obtain ⟨z0, w0⟩ : ∃ zs, IsRow .i64 W a0 len0 cap0 zs := by
    obtain ⟨fuel, hf⟩ := h0
    rcases open_ints Try.underlying28 Try.underlying2 (by kernel_rfl) hf with ⟨hcs, _⟩ | ⟨x, l, c, zs, hcs, _, hl, hm, hz, _, hcell, hwz⟩
    · simp [Value.cells] at hcs
      obtain ⟨rfl, rfl, rfl⟩ := hcs
      exact ⟨[], .inl ⟨rfl, rfl, rfl, rfl⟩⟩
    · simp [Value.cells] at hcs
      obtain ⟨rfl, rfl, rfl⟩ := hcs
      exact ⟨zs, .inr ⟨_, rfl, hl, hm, by simpa using hz, hcell, hwz⟩⟩
  clear hA0 hval0
  refine (walk a0 len0 cap0 z0 W w0).mono fun e W' ⟨he, bel⟩ => ?_
  subst he
  exact ⟨_, rfl, _, _, _, [], _, [], hW', trodAll_mk1 (shut_bool Try.underlying4 _), (trodAll_cons_mk (Below.trod laidOut (by kernel_rfl) (of_decide_eq_true (by kernel_rfl)) k0 bel lt0) trodAll_mk0), rfl, bel.frame _, fun h => by cases h⟩

theorem over : Rows.discMiddleRow.holds Try.pinned (OpenSpec.ofChange Rows.discMiddleSpec) :=
  OpenClaim.holds_of_wide 6 Try.f6 rfl rfl rfl rfl rfl rfl rfl ⟨rfl, rfl, rfl, rfl, rfl⟩ rfl rfl rfl rfl rfl (by kernel_rfl) Try.func6 (by kernel_rfl)
    (of_decide_eq_true (by kernel_rfl)) (by unfold Func.isWrapper; first | (rw [if_pos (by decide +kernel)]; kernel_rfl) | (rw [if_neg (by decide +kernel)]; exact ⟨rfl, rfl⟩))
    (fun os started H enc _ => lifted os started H enc)
theorem proved : Rows.DiscMiddleSaid := over
#print axioms proved
end Go.Proofs.Ytmibmblgaofikaa.discMiddle
namespace Go.Proofs.Ytmibmblgaofikaa
/-- DiscMiddle, as given. -/
theorem discMiddle_holds : Rows.DiscMiddleSaid := discMiddle.proved
end Go.Proofs.Ytmibmblgaofikaa
