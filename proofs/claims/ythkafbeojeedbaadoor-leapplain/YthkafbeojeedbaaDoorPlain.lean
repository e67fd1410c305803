/-
  LeapPlain: by a table of one line each day has 86400 seconds, and a count is the day's times 86400, its second and the offset, for offsets from 0 to 999, days from 0 to 2000000 and seconds from 0 to 86399 (else the statement asks nothing); conditions: the library's tables and its two errors hold what the program's own text lays (the card ties them, over the pruned copy).
-/
import Derived.Test.YthkafbeojeedbaaDoorRows
import Derived.Test.YthkafbeojeedbaaDoorLeapAwake
import Derived.Test.YthkafbeojeedbaaDoorRowBase
import Derived.Test.YthkafbeojeedbaaDoorCards
import Derived.Test.YthkafbeojeedbaaDoorTie
import Derived.Test.YthkafbeojeedbaaDoorCivilLaid
import Derived.Test.YthkafbeojeedbaaDoorLeapLaid
import Derived.WalkKit
import Derived.ProofKit
import Derived.OpenShut
import Derived.ShutString
import Derived.ChangeOld
import Derived.Below
import Derived.Carry
import Derived.Lib.SlBytesConst
import Derived.ArgAppend
import Derived.SevenTiedAt
import Derived.SizedLaws
import Derived.JoinedAt
namespace Go.Proofs.YthkafbeojeedbaaDoor.leapPlain
open Go.ChangeShapes Go.WideShapes Go.ChangeAt Go.RowKit
open Go.ChangeMaps (open_string shut_string)
set_option linter.unusedVariables false

theorem own : ownKnob Tryd.prog.godebug = none := by kernel_rfl
theorem laidOut : laidOutB Tryd.prog = true := by kernel_rfl
/-- A slice of integers that came in: nil, or a row of 'cap' cells, of which the first 'len' are its elements. -/
def IsRow (k : IntKind) (w : World) (a : Option Addr) (len cap : Nat) (zs : List Int) : Prop :=
  (a = none ∧ len = 0 ∧ cap = 0 ∧ zs = []) ∨
  ∃ x, a = some x ∧ len ≤ cap ∧ cap ≤ maxLen ∧ zs.length = cap ∧ (∀ i, i < zs.length → w.cell? (x.add i) = some (.int k (zs.getD i 0))) ∧ ∀ n ∈ zs, (Lit.int k n).wf = true

theorem row_lit (w : World) (C : Array Value) (fr : Nat × Nat) (zs : List Int) (hC : C = (bs zs).toArray) (hb : ∀ z ∈ zs, 0 ≤ z ∧ z ≤ 255) : Row (w.alloc (.cells C 5 fr)) (some ⟨w.heap.size, 0, none⟩) zs := by
  refine ⟨hb, .inr ⟨w.heap.size, 0, rfl, fun j hj => ?_⟩⟩
  rw [Nat.zero_add, World.cell?_alloc_mark, hC]
  simp [bs, hj]
theorem row_new (w : World) (C : Array Value) (fr : Nat × Nat) (zs : List Int) (n : Nat) (hn : n = w.heap.size) (hC : C = (bs zs).toArray) (hb : ∀ z ∈ zs, 0 ≤ z ∧ z ≤ 255) : Row (w.alloc (.cells C 5 fr)) (some ⟨n, 0, none⟩) zs := by
  subst hn; exact row_lit w C fr zs hC hb
theorem own_mono {w : World} {B B' n : Nat} {v : Value} {vs : List Value} (h : w.ownsRow B 5 1 v n vs) (hB : B' ≤ B) : w.ownsRow B' 5 1 v n vs := by
  obtain ⟨hl, h0 | ⟨g, cap, cur, hv, hg, r⟩⟩ := h
  · exact ⟨hl, .inl h0⟩
  · exact ⟨hl, .inr ⟨g, cap, cur, hv, by omega, r⟩⟩
set_option maxRecDepth 8000 in
/-- The first append behind a list that was laid as it is written: it has no room, so a new one is made. -/
theorem append_first {w : World} {ops : Array Oper} {rest : List Oper} {o : Oper} {a : Act} {Q : Exit → Act → World → Prop} (hgd : o.guard = none) (s x : Operand)
    (ho : o.op = .call { callee := .builtin .append, args := #[s, x], argTypes := #[43, 43] })
    (B : Nat) (w0 : World) (hb : Below B w0 w) (hB : B ≤ w.heap.size) (g n : Nat) (xs zs : List Int) (hs : a.eval s = .slice (some ⟨g, 0, none⟩) n n) (hrx : Row w (some ⟨g, 0, none⟩) xs) (hxn : xs.length = n)
    (k m c : Nat) (hx : a.eval x = .slice (some ⟨k, 0, none⟩) m c) (hrow : Row w (some ⟨k, 0, none⟩) zs) (hm : zs.length = m) (hm1 : 1 ≤ m) (hbytes : n + m ≤ 1000)
    (h : ∀ a' cap' w', w'.ownsRow B 5 1 (.slice a' (n + m) cap') (n + m) (bs (xs ++ zs)) → Below B w0 w' → wpList Tryd.prog ops Q rest (a.put o.dst (.slice a' (n + m) cap')) w') : wpList Tryd.prog ops Q (o :: rest) a w := by
  obtain ⟨i0, hi, hz0, hz1, hz2⟩ := info_of info5
  have hce : ∀ (b : Nat) (ys : List Int), Row w (some ⟨b, 0, none⟩) ys → ∀ j u, (bs ys)[j]? = some u → w.cell? ((⟨b, 0, none⟩ : Addr).add j) = some u := fun b ys hr j u hj => by
    obtain ⟨h1, rfl⟩ := bs_at ys j u hj
    rcases hr.cells with h2 | ⟨b', off, he, h2⟩
    · rw [h2] at h1; simp at h1
    · injection he with he
      injection he with e1 e2
      subst e1; subst e2
      rw [addr_add]
      exact h2 j h1
  refine wpList_append_grows w hgd s x 43 ho 5 i0 (.int .u8 0) 1 1 Tryd.underlying43 hi hz0 hz1 hz2 rfl (by decide) (some ⟨g, 0, none⟩) n n (bs xs) hs (fun h => by cases h) (by rw [bs_len]; omega) (fun b hbb j u hj => by injection hbb with hbb; subst hbb; exact hce g xs hrx j u hj) ⟨k, 0, none⟩ m c (bs zs) hx (by rw [bs_len]; omega) (hce k zs hrow) (bs_one zs) (by omega) (by unfold maxLen; omega) (by omega) ?_
  intro v' w' h1 h2
  obtain ⟨a', cap', rfl⟩ : ∃ a' cap', v' = .slice a' (n + m) cap' := by
    rcases h1.2 with ⟨_, h5⟩ | ⟨g, cap, cur, h5, _⟩
    · omega
    · exact ⟨_, _, h5⟩
  rw [← bs_app] at h1
  exact h a' cap' w' (own_mono h1 hB) (hb.grown h2 hB (fun k hk => by cases hk))
theorem no10 : ∀ l : List Int, (∀ z ∈ l, z ≠ 10) → (cut1 10 l).2.2 = false
  | [], _ => rfl
  | z :: r, h => by
    unfold cut1
    rw [if_neg (h z (by simp))]
    exact no10 r (fun y hy => h y (by simp [hy]))
/-- A table of one line. -/
theorem one_parse (n : Int) (h0 : 0 ≤ n) (h1 : n ≤ 999) : parseTb (txt 1970 1 1 ++ 32 :: (ot n ++ [10])) = some [(0, n)] := by
  have e : txt 1970 1 1 ++ 32 :: (ot n ++ [10]) = (txt 1970 1 1 ++ 32 :: ot n) ++ [10] := by simp
  have hn : ∀ z ∈ (txt 1970 1 1 ++ 32 :: ot n), z ≠ 10 := by
    intro z hz
    rcases List.mem_append.1 hz with h | h
    · have : ∀ z ∈ txt 1970 1 1, z ≠ 10 := by decide
      exact this z h
    · rcases List.mem_cons.1 h with rfl | h
      · decide
      · rcases ot_by n z h with h | h <;> omega
  have hs := spl_miss _ [] (no10 _ hn)
  have hl : linesOf ((txt 1970 1 1 ++ 32 :: ot n) ++ [10]) = ([txt 1970 1 1 ++ 32 :: ot n], []) := by
    unfold linesOf
    rw [spl_snoc, if_pos rfl, hs]
    simp
  rw [e, parse_lines hl (by simp) (by simp)]
  have hp := pl_line (y := 1970) (m := 1) (d := 1) (n := n) (by decide) (by omega)
  have hd : dayN 1970 1 1 = 0 := by decide
  rw [hd] at hp
  rw [goN_cons (acc := []) hp (fits_none _)]
  rfl
theorem one_off (n day : Int) (h : 0 ≤ day) : offT [(0, n)] day = n := by
  show (if (0 : Int) ≤ day then lastOff [] day n else 0) = n
  rw [if_pos h]
  rfl
/-- A line's bytes, as the statement lays them. -/
def oneT (ds : List Int) : List Int := [49, 57, 55, 48, 45, 48, 49, 45, 48, 49, 32] ++ ds ++ [10]
theorem one_text (n : Int) (ds : List Int) (h : ot n = ds) : oneT ds = txt 1970 1 1 ++ 32 :: (ot n ++ [10]) := by
  rw [h]
  have : txt 1970 1 1 = [49, 57, 55, 48, 45, 48, 49, 45, 48, 49] := by decide
  rw [this]
  rfl
structure PlainOf (n : Int) (xs : List Int) : Prop where
  good : GoodT [(0, n)]
  parse : parseTb xs = some [(0, n)]
  bytes : ∀ z ∈ xs, 0 ≤ z ∧ z ≤ 255
  short : xs.length ≤ 2000
theorem plain_of (n : Int) (ds : List Int) (h0 : 0 ≤ n) (h1 : n ≤ 999) (h : ot n = ds) : PlainOf n (oneT ds) := by
  have hp := one_parse n h0 h1
  have hl : ds.length ≤ 5 := by
    rw [← h]; unfold ot
    have a := nd_range (-n); have b := nd_range n
    split <;> simp [pd_len] <;> omega
  refine ⟨parseTb_good hp, by rw [one_text n ds h]; exact hp, fun z hz => ?_, by simp [oneT]; omega⟩
  unfold oneT at hz
  rcases List.mem_append.1 hz with hz | hz
  · rcases List.mem_append.1 hz with hz | hz
    · have : ∀ z ∈ ([49, 57, 55, 48, 45, 48, 49, 45, 48, 49, 32] : List Int), 0 ≤ z ∧ z ≤ 255 := by decide
      exact this z hz
    · rw [← h] at hz
      rcases ot_by n z hz with h | h <;> omega
  · simp at hz; omega
set_option maxRecDepth 8000 in
set_option maxHeartbeats 2000000 in
theorem walk (a0 : Int) (a1 : Int) (a2 : Int) (w : World) (w0 : (Lit.int .i64 a0).wf = true) (w1 : (Lit.int .i64 a1).wf = true) (w2 : (Lit.int .i64 a2).wf = true) (hR : Ready w) (hE : LE w) :
    Calls Tryd.prog 8 #[.int .i64 a0, .int .i64 a1, .int .i64 a2] w fun e w' => e = .returned (.bool true) ∧ Below w.heap.size w w' := by
  have by0 := bounds_i64 w0
  have by1 := bounds_i64 w1
  have by2 := bounds_i64 w2
  have AW : Hid (Calls Tryd.prog 9 #[] w fun e w' => e = .returned (.bool true) ∧ Below w.heap.size w w') := awake_any w hR hE
  clear w0 w1 w2
  by_cases r1 : a0 < 0
  · have r1b : decide (a0 < 0) = true := decide_eq_true r1
    clear hR hE
    go_enter Tryd.func8, Tryd.ntmps8
    go_wp2_with (go_at_call 9; refine AW.out.mono ?_; rintro e v1 ⟨rfl, hb1⟩; have B1 : Hid (Below w.heap.size w v1) := hb1; clear hb1)
    go_ret
    exact ⟨rfl, B1.out⟩
  have r1b : decide (a0 < 0) = false := decide_eq_false r1
  by_cases r2 : 999 < a0
  · have r2b : decide (999 < a0) = true := decide_eq_true r2
    clear hR hE
    go_enter Tryd.func8, Tryd.ntmps8
    go_wp2_with (go_at_call 9; refine AW.out.mono ?_; rintro e v1 ⟨rfl, hb1⟩; have B1 : Hid (Below w.heap.size w v1) := hb1; clear hb1)
    go_ret
    exact ⟨rfl, B1.out⟩
  have r2b : decide (999 < a0) = false := decide_eq_false r2
  by_cases r3 : a1 < 0
  · have r3b : decide (a1 < 0) = true := decide_eq_true r3
    clear hR hE
    go_enter Tryd.func8, Tryd.ntmps8
    go_wp2_with (go_at_call 9; refine AW.out.mono ?_; rintro e v1 ⟨rfl, hb1⟩; have B1 : Hid (Below w.heap.size w v1) := hb1; clear hb1)
    go_ret
    exact ⟨rfl, B1.out⟩
  have r3b : decide (a1 < 0) = false := decide_eq_false r3
  by_cases r4 : 2000000 < a1
  · have r4b : decide (2000000 < a1) = true := decide_eq_true r4
    clear hR hE
    go_enter Tryd.func8, Tryd.ntmps8
    go_wp2_with (go_at_call 9; refine AW.out.mono ?_; rintro e v1 ⟨rfl, hb1⟩; have B1 : Hid (Below w.heap.size w v1) := hb1; clear hb1)
    go_ret
    exact ⟨rfl, B1.out⟩
  have r4b : decide (2000000 < a1) = false := decide_eq_false r4
  by_cases r5 : a2 < 0
  · have r5b : decide (a2 < 0) = true := decide_eq_true r5
    clear hR hE
    go_enter Tryd.func8, Tryd.ntmps8
    go_wp2_with (go_at_call 9; refine AW.out.mono ?_; rintro e v1 ⟨rfl, hb1⟩; have B1 : Hid (Below w.heap.size w v1) := hb1; clear hb1)
    go_ret
    exact ⟨rfl, B1.out⟩
  have r5b : decide (a2 < 0) = false := decide_eq_false r5
  by_cases r6 : 86399 < a2
  · have r6b : decide (86399 < a2) = true := decide_eq_true r6
    clear hR hE
    go_enter Tryd.func8, Tryd.ntmps8
    go_wp2_with (go_at_call 9; refine AW.out.mono ?_; rintro e v1 ⟨rfl, hb1⟩; have B1 : Hid (Below w.heap.size w v1) := hb1; clear hb1)
    go_ret
    exact ⟨rfl, B1.out⟩
  have r6b : decide (86399 < a2) = false := decide_eq_false r6
  have RR : Hid (Ready w) := hR
  have EE : Hid (LE w) := hE
  have hkn : Known [(0, a0)] a1 := ⟨by omega, by omega, by show (0 : Int) ≤ a1; omega⟩
  have hlen : lenT [(0, a0)] a1 = 86400 := by unfold lenT; rw [if_pos (by omega), one_off a0 _ (by omega), one_off a0 _ (by omega)]; omega
  have hst : st [(0, a0)] a1 = a1 * 86400 + a0 := by unfold st; rw [one_off a0 _ (by omega)]
  have CL : Hid (∀ xs, PlainOf a0 xs → ∀ p u, TB u p [(0, a0)] xs → Calls Tryd.prog 11 #[.pointer (some p), .int .i64 a1] u fun e w' => e = .returned (.tuple #[.int .i64 86400, .int .i64 0]) ∧ Below u.heap.size u w') := fun xs hp p u h => by
    have c := llen_any p _ xs a1 u h hp.good by1.1 by1.2
    rw [if_pos hkn, if_pos hkn, hlen] at c
    exact c
  have CT : Hid (∀ xs, PlainOf a0 xs → ∀ p u, TB u p [(0, a0)] xs → Calls Tryd.prog 12 #[.pointer (some p), .int .i64 a1, .int .i64 a2] u fun e w' => e = .returned (.tuple #[.int .i64 (a1 * 86400 + a0 + a2), .int .i64 0]) ∧ Below u.heap.size u w') := fun xs hp p u h => by
    have c := ltai_any p _ xs a1 a2 u h hp.good by1.1 by1.2 by2.1 by2.2
    rw [if_pos ⟨hkn, by omega, by rw [hlen]; omega⟩, if_pos hkn, if_pos ⟨by omega, by rw [hlen]; omega⟩, hst] at c
    exact c
  have CP : Hid (∀ xs, PlainOf a0 xs → ∀ u, Ready u → LE u → Calls Tryd.prog 10 #[.string (strOfNums xs)] u fun e w' => (∃ p, e = .returned (.tuple #[.pointer (some p), .int .i64 0]) ∧ TB w' p [(0, a0)] xs) ∧ Below u.heap.size u w') := fun xs hp u r x => (lparse_any xs u r x hp.bytes hp.short).mono (by rintro e w' ⟨h, hb⟩; exact ⟨h.good _ hp.parse, hb⟩)
  have hq : (a1 * 86400 + a0 + a2 == 86400 * a1 + a2 + a0) = true := by rw [show a1 * 86400 + a0 + a2 = 86400 * a1 + a2 + a0 by omega]; simp
  have t100 : a0.tdiv 100 = a0 / 100 := td_pos (by omega)
  have t10 : a0.tdiv 10 = a0 / 10 := td_pos (by omega)
  have m10 : a0.tmod 10 = a0 % 10 := tm_pos (by omega)
  have m1010 : (a0 / 10).tmod 10 = a0 / 10 % 10 := tm_pos (by omega)
  clear hR hE hkn hlen hst
  by_cases k1 : a0 ≤ 9
  · have HPL0 : Hid (PlainOf a0 (oneT [48 + a0 % 10])) := plain_of a0 _ (by omega) (by omega) (by
      unfold ot nd; rw [if_neg (by omega), if_pos (by omega)]; rfl)
    have k2 : ¬ 99 < a0 := by omega
    have k3 : ¬ 9 < a0 := by omega
    have HBY3 : Hid (∀ z ∈ ([49, 57, 55, 48, 45, 48, 49, 45, 48, 49, 32] ++ [48 + a0 % 10, 10] : List Int), 0 ≤ z ∧ z ≤ 255) := by intro z hz; simp at hz; omega
    obtain ⟨XS, hXS⟩ : ∃ xs, xs = [49, 57, 55, 48, 45, 48, 49, 45, 48, 49, 32] ++ [48 + a0 % 10, 10] := ⟨_, rfl⟩
    have HPL : Hid (PlainOf a0 XS) := by rw [hXS]; exact HPL0.out
    obtain ⟨ST, hST⟩ : ∃ s, s = strOfNums XS := ⟨_, rfl⟩
    have CQ : Hid (∀ u, Ready u → LE u → Calls Tryd.prog 10 #[.string ST] u fun e w' => (∃ p, e = .returned (.tuple #[.pointer (some p), .int .i64 0]) ∧ TB w' p [(0, a0)] XS) ∧ Below u.heap.size u w') := fun u r x => by rw [hST]; exact CP.out XS HPL.out u r x
    have hst2 : strOfNums ([49, 57, 55, 48, 45, 48, 49, 45, 48, 49, 32] ++ [48 + a0 % 10, 10]) = ST := by rw [hST, hXS]
    clear hXS hST
    go_enter Tryd.func8, Tryd.ntmps8
    go_wp2_with (first | (go_at_call 12; refine (CT.out _ HPL.out _ _ K7.out).mono ?_; rintro e v8 ⟨rfl, hb8⟩; have B8 : Hid (Below w.heap.size w v8) := B7.out.trans (hb8.mono B7.out.size); clear hb8) | (go_at_call 11; refine (CL.out _ HPL.out _ _ K6.out).mono ?_; rintro e v7 ⟨rfl, hb7⟩; have B7 : Hid (Below w.heap.size w v7) := B6.out.trans (hb7.mono B6.out.size); have K7 : Hid (TB v7 p [(0, a0)] XS) := K6.out.step hb7 (Nat.le_refl _); clear hb7) | (go_at_call 10; refine (CQ.out _ (RR.out.on B3.out) (EE.out.on B3.out)).mono ?_; rintro e v6 ⟨⟨p, rfl, ht6⟩, hb6⟩; have B6 : Hid (Below w.heap.size w v6) := B3.out.trans (hb6.mono B3.out.size); have K6 : Hid (TB v6 p [(0, a0)] XS) := ht6; clear hb6 ht6) | (at_builtin; refine append_first rfl (.tmp 59) (.tmp 64) rfl w.heap.size w ((B1.out.alloc B1.out.size _).alloc (by have := B1.out.size; simp; omega) _) (by have := B1.out.size; simp; omega) v1.heap.size 11 [49, 57, 55, 48, 45, 48, 49, 45, 48, 49, 32] [48 + a0 % 10, 10] rfl ((row_lit v1 _ _ _ rfl (by decide)).below ((Below.refl _ _).alloc (Nat.le_refl _) _) (Nat.le_refl _)) rfl (v1.heap.size + 1) 2 2 rfl (row_new _ _ _ _ _ (by simp) rfl (by intro z hz; simp at hz; omega)) rfl (by decide) (by decide) ?_; intro a3 c3 v3 ho3 hb3; have B3 : Hid (Below w.heap.size w v3) := hb3; have O3 : Hid (v3.ownsRow w.heap.size 5 1 (.slice a3 (11 + 2) c3) (11 + 2) (bs ([49, 57, 55, 48, 45, 48, 49, 45, 48, 49, 32] ++ [48 + a0 % 10, 10]))) := ho3; have hs3 : (convert 43 9 (.slice a3 13 c3)).run Tryd.prog v3 = .ok (.string ST) v3 := (by have h := str_of_row (own_row ho3 HBY3.out) c3; rw [hst2] at h; exact h); clear ho3 hb3) | (go_at_call 9; refine AW.out.mono ?_; rintro e v1 ⟨rfl, hb1⟩; have B1 : Hid (Below w.heap.size w v1) := hb1; have hcv := Lib.run_convert_bytes_const (P := Tryd.prog) v1 43 5 #[.int .u8 49, .int .u8 57, .int .u8 55, .int .u8 48, .int .u8 45, .int .u8 48, .int .u8 49, .int .u8 45, .int .u8 48, .int .u8 49, .int .u8 32] 11 11 Tryd.underlying43 Tryd.underlying5; clear hb1))
    go_ret
    exact ⟨rfl, B8.out⟩
  by_cases k1' : a0 ≤ 99
  · have HPL0 : Hid (PlainOf a0 (oneT [48 + a0 / 10 % 10, 48 + a0 % 10])) := plain_of a0 _ (by omega) (by omega) (by
      unfold ot nd; rw [if_neg (by omega), if_neg (by omega), if_pos (by omega)]; rfl)
    have k2 : ¬ 99 < a0 := by omega
    have k3 : 9 < a0 := by omega
    have HBY3 : Hid (∀ z ∈ ([49, 57, 55, 48, 45, 48, 49, 45, 48, 49, 32] ++ [48 + a0 / 10 % 10] : List Int), 0 ≤ z ∧ z ≤ 255) := by intro z hz; simp at hz; omega
    have HBY4 : Hid (∀ z ∈ (([49, 57, 55, 48, 45, 48, 49, 45, 48, 49, 32] ++ [48 + a0 / 10 % 10]) ++ [48 + a0 % 10, 10] : List Int), 0 ≤ z ∧ z ≤ 255) := by intro z hz; simp at hz; omega
    obtain ⟨XS, hXS⟩ : ∃ xs, xs = ([49, 57, 55, 48, 45, 48, 49, 45, 48, 49, 32] ++ [48 + a0 / 10 % 10]) ++ [48 + a0 % 10, 10] := ⟨_, rfl⟩
    have HPL : Hid (PlainOf a0 XS) := by rw [hXS]; exact HPL0.out
    obtain ⟨ST, hST⟩ : ∃ s, s = strOfNums XS := ⟨_, rfl⟩
    have CQ : Hid (∀ u, Ready u → LE u → Calls Tryd.prog 10 #[.string ST] u fun e w' => (∃ p, e = .returned (.tuple #[.pointer (some p), .int .i64 0]) ∧ TB w' p [(0, a0)] XS) ∧ Below u.heap.size u w') := fun u r x => by rw [hST]; exact CP.out XS HPL.out u r x
    have hst2 : strOfNums (([49, 57, 55, 48, 45, 48, 49, 45, 48, 49, 32] ++ [48 + a0 / 10 % 10]) ++ [48 + a0 % 10, 10]) = ST := by rw [hST, hXS]
    clear hXS hST
    go_enter Tryd.func8, Tryd.ntmps8
    go_wp2_with (first | (go_at_call 12; refine (CT.out _ HPL.out _ _ K7.out).mono ?_; rintro e v8 ⟨rfl, hb8⟩; have B8 : Hid (Below w.heap.size w v8) := B7.out.trans (hb8.mono B7.out.size); clear hb8) | (go_at_call 11; refine (CL.out _ HPL.out _ _ K6.out).mono ?_; rintro e v7 ⟨rfl, hb7⟩; have B7 : Hid (Below w.heap.size w v7) := B6.out.trans (hb7.mono B6.out.size); have K7 : Hid (TB v7 p [(0, a0)] XS) := K6.out.step hb7 (Nat.le_refl _); clear hb7) | (go_at_call 10; refine (CQ.out _ (RR.out.on B4.out) (EE.out.on B4.out)).mono ?_; rintro e v6 ⟨⟨p, rfl, ht6⟩, hb6⟩; have B6 : Hid (Below w.heap.size w v6) := B4.out.trans (hb6.mono B4.out.size); have K6 : Hid (TB v6 p [(0, a0)] XS) := ht6; clear hb6 ht6) | (at_builtin; have hgo := O3.out; clear hgo; refine wpList_append_on rfl (.tmp 59) (.tmp 64) rfl w.heap.size w (B3.out.alloc B3.out.size _) (by have := B3.out.size; simp; omega) (.slice a3 (11 + 1) c3) (11 + 1) ([49, 57, 55, 48, 45, 48, 49, 45, 48, 49, 32] ++ [48 + a0 / 10 % 10]) [48 + a0 % 10, 10] rfl (own_below O3.out ((Below.refl _ _).alloc (Nat.le_refl _) _) (Nat.le_refl _)) (some ⟨v3.heap.size, 0, none⟩) 2 2 rfl (row_new _ _ _ _ _ rfl rfl (by intro z hz; simp at hz; omega)) rfl (by intro h; cases h) HBY3.out (by decide) ?_; intro a4 c4 v4 ho4 hb4; have B4 : Hid (Below w.heap.size w v4) := hb4; have O4 : Hid (v4.ownsRow w.heap.size 5 1 (.slice a4 (11 + 1 + 2) c4) (11 + 1 + 2) (bs (([49, 57, 55, 48, 45, 48, 49, 45, 48, 49, 32] ++ [48 + a0 / 10 % 10]) ++ [48 + a0 % 10, 10]))) := ho4; have hs4 : (convert 43 9 (.slice a4 14 c4)).run Tryd.prog v4 = .ok (.string ST) v4 := (by have h := str_of_row (own_row ho4 HBY4.out) c4; rw [hst2] at h; exact h); clear ho4 hb4) | (at_builtin; refine append_first rfl (.tmp 51) (.tmp 57) rfl w.heap.size w ((B1.out.alloc B1.out.size _).alloc (by have := B1.out.size; simp; omega) _) (by have := B1.out.size; simp; omega) v1.heap.size 11 [49, 57, 55, 48, 45, 48, 49, 45, 48, 49, 32] [48 + a0 / 10 % 10] rfl ((row_lit v1 _ _ _ rfl (by decide)).below ((Below.refl _ _).alloc (Nat.le_refl _) _) (Nat.le_refl _)) rfl (v1.heap.size + 1) 1 1 rfl (row_new _ _ _ _ _ (by simp) rfl (by intro z hz; simp at hz; omega)) rfl (by decide) (by decide) ?_; intro a3 c3 v3 ho3 hb3; have B3 : Hid (Below w.heap.size w v3) := hb3; have O3 : Hid (v3.ownsRow w.heap.size 5 1 (.slice a3 (11 + 1) c3) (11 + 1) (bs ([49, 57, 55, 48, 45, 48, 49, 45, 48, 49, 32] ++ [48 + a0 / 10 % 10]))) := ho3; clear ho3 hb3) | (go_at_call 9; refine AW.out.mono ?_; rintro e v1 ⟨rfl, hb1⟩; have B1 : Hid (Below w.heap.size w v1) := hb1; have hcv := Lib.run_convert_bytes_const (P := Tryd.prog) v1 43 5 #[.int .u8 49, .int .u8 57, .int .u8 55, .int .u8 48, .int .u8 45, .int .u8 48, .int .u8 49, .int .u8 45, .int .u8 48, .int .u8 49, .int .u8 32] 11 11 Tryd.underlying43 Tryd.underlying5; clear hb1))
    go_ret
    exact ⟨rfl, B8.out⟩
  · have HPL0 : Hid (PlainOf a0 (oneT [48 + a0 / 100, 48 + a0 / 10 % 10, 48 + a0 % 10])) := plain_of a0 _ (by omega) (by omega) (by
      unfold ot nd; rw [if_neg (by omega), if_neg (by omega), if_neg (by omega), if_pos (by omega)]; show ([] ++ [48 + a0 / 10 / 10 % 10] ++ [48 + a0 / 10 % 10] ++ [48 + a0 % 10] : List Int) = _; rw [show a0 / 10 / 10 % 10 = a0 / 100 by omega]; rfl)
    have k2 : 99 < a0 := by omega
    have k3 : 9 < a0 := by omega
    have HBY3 : Hid (∀ z ∈ ([49, 57, 55, 48, 45, 48, 49, 45, 48, 49, 32] ++ [48 + a0 / 100] : List Int), 0 ≤ z ∧ z ≤ 255) := by intro z hz; simp at hz; omega
    have HBY4 : Hid (∀ z ∈ (([49, 57, 55, 48, 45, 48, 49, 45, 48, 49, 32] ++ [48 + a0 / 100]) ++ [48 + a0 / 10 % 10] : List Int), 0 ≤ z ∧ z ≤ 255) := by intro z hz; simp at hz; omega
    have HBY5 : Hid (∀ z ∈ ((([49, 57, 55, 48, 45, 48, 49, 45, 48, 49, 32] ++ [48 + a0 / 100]) ++ [48 + a0 / 10 % 10]) ++ [48 + a0 % 10, 10] : List Int), 0 ≤ z ∧ z ≤ 255) := by intro z hz; simp at hz; omega
    obtain ⟨XS, hXS⟩ : ∃ xs, xs = (([49, 57, 55, 48, 45, 48, 49, 45, 48, 49, 32] ++ [48 + a0 / 100]) ++ [48 + a0 / 10 % 10]) ++ [48 + a0 % 10, 10] := ⟨_, rfl⟩
    have HPL : Hid (PlainOf a0 XS) := by rw [hXS]; exact HPL0.out
    obtain ⟨ST, hST⟩ : ∃ s, s = strOfNums XS := ⟨_, rfl⟩
    have CQ : Hid (∀ u, Ready u → LE u → Calls Tryd.prog 10 #[.string ST] u fun e w' => (∃ p, e = .returned (.tuple #[.pointer (some p), .int .i64 0]) ∧ TB w' p [(0, a0)] XS) ∧ Below u.heap.size u w') := fun u r x => by rw [hST]; exact CP.out XS HPL.out u r x
    have hst2 : strOfNums ((([49, 57, 55, 48, 45, 48, 49, 45, 48, 49, 32] ++ [48 + a0 / 100]) ++ [48 + a0 / 10 % 10]) ++ [48 + a0 % 10, 10]) = ST := by rw [hST, hXS]
    clear hXS hST
    go_enter Tryd.func8, Tryd.ntmps8
    go_wp2_with (first | (go_at_call 12; refine (CT.out _ HPL.out _ _ K7.out).mono ?_; rintro e v8 ⟨rfl, hb8⟩; have B8 : Hid (Below w.heap.size w v8) := B7.out.trans (hb8.mono B7.out.size); clear hb8) | (go_at_call 11; refine (CL.out _ HPL.out _ _ K6.out).mono ?_; rintro e v7 ⟨rfl, hb7⟩; have B7 : Hid (Below w.heap.size w v7) := B6.out.trans (hb7.mono B6.out.size); have K7 : Hid (TB v7 p [(0, a0)] XS) := K6.out.step hb7 (Nat.le_refl _); clear hb7) | (go_at_call 10; refine (CQ.out _ (RR.out.on B5.out) (EE.out.on B5.out)).mono ?_; rintro e v6 ⟨⟨p, rfl, ht6⟩, hb6⟩; have B6 : Hid (Below w.heap.size w v6) := B5.out.trans (hb6.mono B5.out.size); have K6 : Hid (TB v6 p [(0, a0)] XS) := ht6; clear hb6 ht6) | (at_builtin; have hgo := O4.out; clear hgo; refine wpList_append_on rfl (.tmp 59) (.tmp 64) rfl w.heap.size w (B4.out.alloc B4.out.size _) (by have := B4.out.size; simp; omega) (.slice a4 (11 + 1 + 1) c4) (11 + 1 + 1) (([49, 57, 55, 48, 45, 48, 49, 45, 48, 49, 32] ++ [48 + a0 / 100]) ++ [48 + a0 / 10 % 10]) [48 + a0 % 10, 10] rfl (own_below O4.out ((Below.refl _ _).alloc (Nat.le_refl _) _) (Nat.le_refl _)) (some ⟨v4.heap.size, 0, none⟩) 2 2 rfl (row_new _ _ _ _ _ rfl rfl (by intro z hz; simp at hz; omega)) rfl (by intro h; cases h) HBY4.out (by decide) ?_; intro a5 c5 v5 ho5 hb5; have B5 : Hid (Below w.heap.size w v5) := hb5; have O5 : Hid (v5.ownsRow w.heap.size 5 1 (.slice a5 (11 + 1 + 1 + 2) c5) (11 + 1 + 1 + 2) (bs ((([49, 57, 55, 48, 45, 48, 49, 45, 48, 49, 32] ++ [48 + a0 / 100]) ++ [48 + a0 / 10 % 10]) ++ [48 + a0 % 10, 10]))) := ho5; have hs5 : (convert 43 9 (.slice a5 15 c5)).run Tryd.prog v5 = .ok (.string ST) v5 := (by have h := str_of_row (own_row ho5 HBY5.out) c5; rw [hst2] at h; exact h); clear ho5 hb5) | (at_builtin; have hgo := O3.out; clear hgo; refine wpList_append_on rfl (.tmp 51) (.tmp 57) rfl w.heap.size w (B3.out.alloc B3.out.size _) (by have := B3.out.size; simp; omega) (.slice a3 (11 + 1) c3) (11 + 1) ([49, 57, 55, 48, 45, 48, 49, 45, 48, 49, 32] ++ [48 + a0 / 100]) [48 + a0 / 10 % 10] rfl (own_below O3.out ((Below.refl _ _).alloc (Nat.le_refl _) _) (Nat.le_refl _)) (some ⟨v3.heap.size, 0, none⟩) 1 1 rfl (row_new _ _ _ _ _ rfl rfl (by intro z hz; simp at hz; omega)) rfl (by intro h; cases h) HBY3.out (by decide) ?_; intro a4 c4 v4 ho4 hb4; have B4 : Hid (Below w.heap.size w v4) := hb4; have O4 : Hid (v4.ownsRow w.heap.size 5 1 (.slice a4 (11 + 1 + 1) c4) (11 + 1 + 1) (bs (([49, 57, 55, 48, 45, 48, 49, 45, 48, 49, 32] ++ [48 + a0 / 100]) ++ [48 + a0 / 10 % 10]))) := ho4; clear ho4 hb4) | (at_builtin; refine append_first rfl (.tmp 42) (.tmp 47) rfl w.heap.size w ((B1.out.alloc B1.out.size _).alloc (by have := B1.out.size; simp; omega) _) (by have := B1.out.size; simp; omega) v1.heap.size 11 [49, 57, 55, 48, 45, 48, 49, 45, 48, 49, 32] [48 + a0 / 100] rfl ((row_lit v1 _ _ _ rfl (by decide)).below ((Below.refl _ _).alloc (Nat.le_refl _) _) (Nat.le_refl _)) rfl (v1.heap.size + 1) 1 1 rfl (row_new _ _ _ _ _ (by simp) rfl (by intro z hz; simp at hz; omega)) rfl (by decide) (by decide) ?_; intro a3 c3 v3 ho3 hb3; have B3 : Hid (Below w.heap.size w v3) := hb3; have O3 : Hid (v3.ownsRow w.heap.size 5 1 (.slice a3 (11 + 1) c3) (11 + 1) (bs ([49, 57, 55, 48, 45, 48, 49, 45, 48, 49, 32] ++ [48 + a0 / 100]))) := ho3; clear ho3 hb3) | (go_at_call 9; refine AW.out.mono ?_; rintro e v1 ⟨rfl, hb1⟩; have B1 : Hid (Below w.heap.size w v1) := hb1; have hcv := Lib.run_convert_bytes_const (P := Tryd.prog) v1 43 5 #[.int .u8 49, .int .u8 57, .int .u8 55, .int .u8 48, .int .u8 45, .int .u8 48, .int .u8 49, .int .u8 45, .int .u8 48, .int .u8 49, .int .u8 32] 11 11 Tryd.underlying43 Tryd.underlying5; clear hb1))
    go_ret
    exact ⟨rfl, B8.out⟩

set_option maxRecDepth 100000 in
theorem lifted (os : Os) (started : os.Started) (H : Type) (enc : TypeId × Value → H) :
    ReturnsInHanded {} Tryd.checked os 8 .any (fun w args => (Rows.leapPlainSpec.pre enc Tryd.prog Tryd.f8 Rows.leapPlainRow.domain false w args ∧ laidMet Tryd.prog laid5 w) ∧ sizedMet enc Tryd.prog Tryd.f8 (OpenSpec.ofChange Rows.leapPlainSpec) false w args)
      (Rows.leapPlainSpec.post enc Tryd.prog Tryd.f8 false true false false) := by
  refine returnsInHanded_of_change_and (C := Tryd.checked) (X := fun w _ => laidMet Tryd.prog laid5 w) (fun _ _ _ hh h => h.of_heap hh) own started (by kernel_rfl) Tryd.func8
    (ChangeSpec.witness_at (enc := enc) (C := Tryd.checked) (os := os) (X := fun w _ => laidMet Tryd.prog laid5 w) false (laidWorld5 os) #[.int .i64 0, .int .i64 0, .int .i64 0] 8 rfl (by kernel_rfl) (by kernel_rfl) (by kernel_rfl) (by kernel_rfl) (by kernel_rfl) (laid5_met os _)) ?_
  intro W base args ds gs before hval0 hW _ _ hL _
  have hval : ∀ (j : Nat) t v, Tryd.f8.params[j]? = some t → args[j]? = some v → Value.okWide Tryd.prog W .any base t v := hval0
  have hW' := hW
  obtain ⟨p, q, hA0, hV, rfl, hfz, hnd⟩ := hW
  have hA : DataW.TrodAll enc Tryd.prog W 0 (fun _ => true) true Tryd.f8.params.toList args.toList ds p := hA0
  rw [Tryd.params8] at hA hval
  obtain ⟨v0, vs0, d0, ds0, p0, q0, hargs, rfl, rfl, h0, r0⟩ := trodAll_cons hA
  obtain ⟨v1, vs1, d1, ds1, p1, q1, rfl, rfl, rfl, h1, r1⟩ := trodAll_cons r0
  obtain ⟨v2, vs2, d2, ds2, p2, q2, rfl, rfl, rfl, h2, r2⟩ := trodAll_cons r1
  obtain ⟨rfl, rfl, rfl⟩ := trodAll_nil r2
  obtain rfl : args = #[v0, v1, v2] := by cases args; simp_all
  obtain ⟨rfl, rfl⟩ := trodVars_none hV
  have k0 := h0
  have lt0 : ∀ x ∈ p0, x.block < W.heap.size := by obtain ⟨m, hm⟩ := k0; exact DataW.trod_lt m _ _ _ hm
  obtain ⟨a0, rfl, rfl, rfl, w0⟩ := open_int Tryd.underlying3 (hval 0 3 v0 rfl rfl) h0
  have k1 := h1
  have lt1 : ∀ x ∈ p1, x.block < W.heap.size := by obtain ⟨m, hm⟩ := k1; exact DataW.trod_lt m _ _ _ hm
  obtain ⟨a1, rfl, rfl, rfl, w1⟩ := open_int Tryd.underlying2 (hval 1 2 v1 rfl rfl) h1
  have k2 := h2
  have lt2 : ∀ x ∈ p2, x.block < W.heap.size := by obtain ⟨m, hm⟩ := k2; exact DataW.trod_lt m _ _ _ hm
  obtain ⟨a2, rfl, rfl, rfl, w2⟩ := open_int Tryd.underlying3 (hval 2 3 v2 rfl rfl) h2
  clear hA0 hval0
  refine (walk a0 a1 a2 W w0 w1 w2 (ready_of hL) (le_of hL)).mono fun e W' ⟨he, bel⟩ => ?_
  subst he
  exact ⟨_, rfl, _, _, _, [], _, [], hW', trodAll_mk1 (shut_bool Tryd.underlying4 _), (trodAll_cons_mk (Below.trod laidOut (by kernel_rfl) (of_decide_eq_true (by kernel_rfl)) k0 bel lt0) (trodAll_cons_mk (Below.trod laidOut (by kernel_rfl) (of_decide_eq_true (by kernel_rfl)) k1 bel lt1) (trodAll_cons_mk (Below.trod laidOut (by kernel_rfl) (of_decide_eq_true (by kernel_rfl)) k2 bel lt2) trodAll_mk0))), rfl, bel.frame _, fun h => by cases h⟩

theorem over : Rows.leapPlainRow.holds Tryd.pinned (OpenSpec.ofChange Rows.leapPlainSpec) :=
  OpenClaim.holds_of_wide 8 Tryd.f8 rfl rfl rfl rfl rfl rfl rfl ⟨rfl, rfl, rfl, rfl, rfl⟩ rfl rfl rfl rfl rfl (by kernel_rfl) Tryd.func8 (by kernel_rfl)
    (of_decide_eq_true (by kernel_rfl)) (by unfold Func.isWrapper; first | (rw [if_pos (by decide +kernel)]; kernel_rfl) | (rw [if_neg (by decide +kernel)]; exact ⟨rfl, rfl⟩))
    (fun os started H enc _ => lifted os started H enc)
theorem carded : Rows.LeapPlainCardSaid :=
  Claim7.holds_tied_plain_at .later [] [.data, .data, .data, .sentinel, .sentinel] true (true, "72f713a098904629023c27e22fcd14849cabfc9045bb6cfdb3350a65775f249f") true
    over (fun _ h => by cases h) (by kernel_rfl) (fun _ h => by cases h) leapPlain_row_tie rfl ⟨rfl, rfl⟩ (by kernel_rfl) rfl
    (fun f fn hf hfn => by
      obtain rfl : f = 8 := Option.some.inj ((show Tryd.prog.funcNamed "hourglass/hourglasslaw5.LeapPlain" = some 8 by kernel_rfl).symm.trans hf) |>.symm
      obtain rfl : fn = Tryd.f8 := (Option.some.inj (Tryd.func8.symm.trans hfn)).symm
      exact ⟨by kernel_rfl, fun j t ht => by
        rw [Tryd.params8] at ht
        have hm : t ∈ [3, 2, 3] := by simpa using Array.mem_of_getElem? ht
        have hall : ([3, 2, 3].all fun u => !Tryd.prog.wantsStandIn u) = true := by kernel_rfl
        exact (show Tryd.prog.wantsStandIn t = false by simpa using List.all_eq_true.1 hall t hm)⟩)
    (by kernel_rfl)
#print axioms carded
end Go.Proofs.YthkafbeojeedbaaDoor.leapPlain
namespace Go.Proofs.YthkafbeojeedbaaDoor
/-- LeapPlain, as given. -/
theorem leapPlain_holds : Rows.LeapPlainCardSaid := leapPlain.carded
end Go.Proofs.YthkafbeojeedbaaDoor
