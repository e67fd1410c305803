/-
  CivilOrder: dates are in the order of their days, for every two day numbers, and texts of years from 0 on too; conditions: the library's tables, and its two errors where they are listed, hold what the program's own text lays (the card ties them, over the pruned copy).
-/
import Derived.Test.YtglommaegcaodabDoorRows
import Derived.Test.YtglommaegcaodabDoorCivilAwake
import Derived.Test.YtglommaegcaodabDoorCards
import Derived.Test.YtglommaegcaodabDoorTie
import Derived.Test.YtglommaegcaodabDoorCivilLaid
import Derived.WalkKit
import Derived.ProofKit
import Derived.OpenShut
import Derived.ShutString
import Derived.ChangeOld
import Derived.Below
import Derived.Carry
import Derived.Deep.RegionHeld3
import Derived.Deep.DeepCutAuto
import Derived.SevenTiedAt
import Derived.SizedLaws
import Derived.JoinedAt
namespace Go.Proofs.YtglommaegcaodabDoor.civilOrder
open Go.ChangeShapes Go.WideShapes Go.ChangeAt Go.RowKit
open Go.ChangeMaps (open_string shut_string)
set_option linter.unusedVariables false

theorem own : ownKnob Tryd.prog.godebug = none := by kernel_rfl
theorem laidOut : laidOutB Tryd.prog = true := by kernel_rfl
/-- A slice of integers that came in: nil, or a row of 'cap' cells, of which the first 'len' are its elements. -/
def IsRow (k : IntKind) (w : World) (a : Option Addr) (len cap : Nat) (zs : List Int) : Prop :=
  (a = none ∧ len = 0 ∧ cap = 0 ∧ zs = []) ∨
  ∃ x, a = some x ∧ len ≤ cap ∧ cap ≤ maxLen ∧ zs.length = cap ∧ (∀ i, i < zs.length → w.cell? (x.add i) = some (.int k (zs.getD i 0))) ∧ ∀ n ∈ zs, (Lit.int k n).wf = true

theorem year_exists (n : Int) (h1 : -4371587 ≤ n) : ∀ k : Nat, n < fy (-9999 + k) → ∃ y : Int, -9999 ≤ y ∧ y < -9999 + k ∧ fy y ≤ n ∧ n < fy (y + 1) := by
  intro k
  induction k with
  | zero => intro h; simp at h; rw [fy_lo] at h; omega
  | succ k ih =>
    intro h
    by_cases hk : n < fy (-9999 + k)
    · obtain ⟨y, a, b, c⟩ := ih hk
      exact ⟨y, a, by omega, c⟩
    · exact ⟨-9999 + k, by omega, by omega, by omega, by have e : (-9999 : Int) + ((k + 1 : Nat) : Int) = -9999 + k + 1 := by omega
                                                         rw [e] at h; exact h⟩
theorem month_exists (y r : Int) (h1 : 0 ≤ r) : ∀ k : Nat, k ≤ 12 → r < md y (1 + k) → ∃ m, 1 ≤ m ∧ m ≤ 12 ∧ md y m ≤ r ∧ r < md y (m + 1) := by
  intro k
  induction k with
  | zero => intro _ h; simp [md_one] at h; omega
  | succ k ih =>
    intro hk h
    by_cases hk2 : r < md y (1 + k)
    · exact ih (by omega) hk2
    · exact ⟨1 + k, by omega, by omega, by omega, by have e : (1 : Int) + ((k + 1 : Nat) : Int) = 1 + k + 1 := by omega
                                                     rw [e] at h; exact h⟩
theorem day_exists (n : Int) (h1 : -4371587 ≤ n) (h2 : n ≤ 2932896) : ∃ y m d, Gd y m d ∧ dayN y m d = n := by
  obtain ⟨y, a, b, c, e⟩ := year_exists n h1 19999 (by show n < fy 10000; rw [fy_hi]; omega)
  have hs := fy_step y
  have hend := md_end y
  obtain ⟨m, m1, m2, m3, m4⟩ := month_exists y (n - fy y) (by omega) 12 (by omega) (by show _ < md y 13; rw [hend]; omega)
  have hms := md_step (y := y) m1 m2
  have hd := day_of (y := y) (m := m) (n := n) a (by omega) m1 m2 (by omega) (by omega)
  exact ⟨y, m, _, hd⟩
/-- One list of bytes ahead of another. -/
def lexI : List Int → List Int → Bool
  | _, [] => false
  | [], _ :: _ => true
  | a :: x, b :: y => decide (a < b) || (a == b && lexI x y)
theorem less_lex (xs : List Int) : ∀ ys : List Int, (∀ z ∈ xs, 0 ≤ z ∧ z ≤ 255) → (∀ z ∈ ys, 0 ≤ z ∧ z ≤ 255) → Op.bytesLess (strOfNums xs).toList (strOfNums ys).toList = lexI xs ys := by
  have e : ∀ zs : List Int, (strOfNums zs).toList = zs.map fun n => UInt8.ofNat n.toNat := fun zs => by rw [ByteArray.toList_eq]; exact strOfNums_data zs
  induction xs with
  | nil => intro ys _ _; rw [e, e]; cases ys <;> simp [Op.bytesLess, lexI]
  | cons x xs ih =>
    intro ys hx hy
    cases ys with
    | nil => rw [e, e]; simp [Op.bytesLess, lexI]
    | cons y ys =>
      have h := ih ys (fun z hz => hx z (by simp [hz])) (fun z hz => hy z (by simp [hz]))
      rw [e, e] at h
      rw [e, e]
      have bx := hx x (by simp)
      have bby := hy y (by simp)
      simp only [List.map_cons, Op.bytesLess, lexI]
      rw [h]
      have n1 : (UInt8.ofNat x.toNat).toNat = x.toNat := by simp; omega
      have n2 : (UInt8.ofNat y.toNat).toNat = y.toNat := by simp; omega
      have e1 : decide (UInt8.ofNat x.toNat < UInt8.ofNat y.toNat) = decide (x < y) := by
        rw [decide_eq_decide, UInt8.lt_iff_toNat_lt, n1, n2]; omega
      have e2 : (UInt8.ofNat x.toNat == UInt8.ofNat y.toNat) = (x == y) := by
        rw [Bool.eq_iff_iff]
        simp only [beq_iff_eq]
        constructor
        · intro h'; have := congrArg UInt8.toNat h'; rw [n1, n2] at this; omega
        · intro h'; rw [h']
      rw [e1, e2]
theorem lex_app (A : List Int) : ∀ (B X Y : List Int), A.length = B.length → lexI (A ++ X) (B ++ Y) = (lexI A B || (decide (A = B) && lexI X Y)) := by
  induction A with
  | nil => intro B X Y h; cases B with
    | nil => simp [lexI]
    | cons b B => simp at h
  | cons a A ih =>
    intro B X Y h
    cases B with
    | nil => simp at h
    | cons b B =>
      simp at h
      simp only [List.cons_append, lexI]
      rw [ih B X Y h]
      by_cases hab : a = b
      · subst hab; simp
      · have hf : (a == b) = false := by simp [hab]
        simp [hf, hab]
theorem lex_pd (k : Nat) : ∀ n n' : Int, 0 ≤ n → n < 10 ^ k → 0 ≤ n' → n' < 10 ^ k → lexI (pd k n) (pd k n') = decide (n < n') ∧ (pd k n = pd k n' ↔ n = n') := by
  induction k with
  | zero => intro n n' a b c d; simp at b d; have : n = n' := by omega
            subst this; simp [pd, lexI]
  | succ k ih =>
    intro n n' a b c d
    rw [Int.pow_succ] at b d
    obtain ⟨h1, h2⟩ := ih (n / 10) (n' / 10) (by omega) (by omega) (by omega) (by omega)
    simp only [pd]
    constructor
    · rw [lex_app _ _ _ _ (by rw [pd_len, pd_len]), h1]
      have h3 : decide (pd k (n / 10) = pd k (n' / 10)) = decide (n / 10 = n' / 10) := by rw [decide_eq_decide]; exact h2
      rw [h3]
      simp only [lexI, Bool.and_false, Bool.or_false]
      rw [Bool.eq_iff_iff]
      simp
      omega
    · constructor
      · intro h
        obtain ⟨h3, h4⟩ := List.append_inj h (by rw [pd_len, pd_len])
        have := h2.1 h3
        simp at h4
        omega
      · intro h; rw [h]
theorem lex_body {y m d y' m' d' : Int} (h : Gd y m d) (h' : Gd y' m' d') (hy : 0 ≤ y) (hy' : 0 ≤ y') : lexI (body y m d) (body y' m' d') = decide (Ahead y m d y' m' d') := by
  have e1 : ab y = y := by unfold ab; rw [if_neg (by omega)]
  have e2 : ab y' = y' := by unfold ab; rw [if_neg (by omega)]
  have a1 := h.month; have a2 := h.day; have a3 := h'.month; have a4 := h'.day
  have b1 := h.2.1; have b2 := h'.2.1
  unfold body
  rw [e1, e2]
  obtain ⟨l1, i1⟩ := lex_pd 4 y y' hy (by omega) hy' (by omega)
  obtain ⟨l2, i2⟩ := lex_pd 2 m m' (by omega) (by omega) (by omega) (by omega)
  obtain ⟨l3, i3⟩ := lex_pd 2 d d' (by omega) (by omega) (by omega) (by omega)
  rw [lex_app _ _ _ _ (by rw [pd_len, pd_len]), l1]
  have c1 : ∀ X Y, lexI (45 :: X) (45 :: Y) = lexI X Y := fun X Y => by simp [lexI]
  rw [c1, lex_app _ _ _ _ (by rw [pd_len, pd_len]), l2, c1, l3]
  have j1 : decide (pd 4 y = pd 4 y') = decide (y = y') := by rw [decide_eq_decide]; exact i1
  have j2 : decide (pd 2 m = pd 2 m') = decide (m = m') := by rw [decide_eq_decide]; exact i2
  rw [j1, j2, Bool.eq_iff_iff]
  simp only [decide_eq_true_eq, Bool.or_eq_true, Bool.and_eq_true]
set_option maxRecDepth 8000 in
set_option maxHeartbeats 4000000 in
theorem walk (a0 : Int) (a1 : Int) (w : World) (w0 : (Lit.int .i64 a0).wf = true) (w1 : (Lit.int .i64 a1).wf = true) (hR : Ready w) :
    Calls Tryd.prog 3 #[.int .i64 a0, .int .i64 a1] w fun e w' => e = .returned (.bool true) ∧ Below w.heap.size w w' := by
  have by0 := bounds_i64 w0
  have by1 := bounds_i64 w1
  have AW : Hid (Calls Tryd.prog 5 #[] w fun e w' => e = .returned (.bool true) ∧ Below w.heap.size w w') := awake_any w hR
  have RR : Hid (Ready w) := hR
  clear w0 w1 hR
  by_cases r1 : a0 < -4371587 ∨ 2932896 < a0
  · have C1 : Hid (∀ w, Calls Tryd.prog 6 #[.int .i64 a0] w fun e w' => e = .returned (.tuple #[.agg #[.int .i64 0, .int .i64 0, .int .i64 0], .int .i64 1]) ∧ Below w.heap.size w w') := fun w => of_out a0 w r1 (by omega) (by omega)
    have C2 : Hid (∀ w, Calls Tryd.prog 6 #[.int .i64 a1] w fun e w' => (∃ y m d k, e = .returned (.tuple #[.agg #[.int .i64 y, .int .i64 m, .int .i64 d], .int .i64 k])) ∧ Below w.heap.size w w') := fun w => by
      by_cases r2 : a1 < -4371587 ∨ 2932896 < a1
      · exact (of_out a1 w r2 (by omega) (by omega)).mono (by rintro e w' ⟨rfl, hb⟩; exact ⟨⟨_, _, _, _, rfl⟩, hb⟩)
      · exact (of_in a1 w (by omega) (by omega)).mono (by rintro e w' ⟨y, m, d, rfl, _, _, hb⟩; exact ⟨⟨_, _, _, _, rfl⟩, hb⟩)
    go_enter Tryd.func3, Tryd.ntmps3
    go_wp2_with (first | (go_at_call 6; have hgo := HB2.out; clear hgo; refine (C2.out _).mono ?_; rintro e w3 ⟨⟨y, m, d, k, rfl⟩, hb3⟩; have HB3 : Hid (Below w.heap.size w w3) := (HB2.out.alloc HB2.out.size _).trans (hb3.mono (by simp; exact Nat.le_trans HB2.out.size (Nat.le_succ _))); clear hb3) | (go_at_call 6; refine (C1.out _).mono ?_; rintro e w2 ⟨rfl, hb2⟩; have HB2 : Hid (Below w.heap.size w w2) := HB1.out.trans (hb2.mono HB1.out.size); clear hb2) | (go_at_call 5; refine AW.out.mono ?_; rintro e w1 ⟨rfl, hb1⟩; have HB1 : Hid (Below w.heap.size w w1) := hb1; clear hb1))
    go_ret
    exact ⟨rfl, HB3.out.alloc HB3.out.size _⟩
  obtain ⟨y1, m1, d1, g1, n1⟩ := day_exists a0 (by omega) (by omega)
  have C1 : Hid (∀ w, Calls Tryd.prog 6 #[.int .i64 a0] w fun e w' => e = .returned (.tuple #[.agg #[.int .i64 y1, .int .i64 m1, .int .i64 d1], .int .i64 0]) ∧ Below w.heap.size w w') := fun w =>
    (of_in a0 w (by omega) (by omega)).mono (by rintro e w' ⟨y, m, d, rfl, hg', h0, hb⟩; obtain ⟨rfl, rfl, rfl⟩ := day_inj hg' g1 (by rw [h0, n1]); exact ⟨rfl, hb⟩)
  by_cases r2 : a1 < -4371587 ∨ 2932896 < a1
  · have C2 : Hid (∀ w, Calls Tryd.prog 6 #[.int .i64 a1] w fun e w' => e = .returned (.tuple #[.agg #[.int .i64 0, .int .i64 0, .int .i64 0], .int .i64 1]) ∧ Below w.heap.size w w') := fun w => of_out a1 w r2 (by omega) (by omega)
    clear g1 n1
    go_enter Tryd.func3, Tryd.ntmps3
    go_wp2_with (first | (go_at_call 6; have hgo := HB2.out; clear hgo; refine (C2.out _).mono ?_; rintro e w3 ⟨rfl, hb3⟩; have HB3 : Hid (Below w.heap.size w w3) := (HB2.out.alloc HB2.out.size _).trans (hb3.mono (by simp; exact Nat.le_trans HB2.out.size (Nat.le_succ _))); have HD := (DateAt.made w2 24 y1 m1 d1).below hb3 (by simp); have hd0 := cell_past HD.c0; have hd1 := cell_past HD.c1; have hd2 := cell_past HD.c2; clear hb3 HD) | (go_at_call 6; refine (C1.out _).mono ?_; rintro e w2 ⟨rfl, hb2⟩; have HB2 : Hid (Below w.heap.size w w2) := HB1.out.trans (hb2.mono HB1.out.size); clear hb2) | (go_at_call 5; refine AW.out.mono ?_; rintro e w1 ⟨rfl, hb1⟩; have HB1 : Hid (Below w.heap.size w w1) := hb1; clear hb1))
    go_ret
    exact ⟨rfl, HB3.out.alloc HB3.out.size _⟩
  obtain ⟨y2, m2, d2, g2, n2⟩ := day_exists a1 (by omega) (by omega)
  have C2 : Hid (∀ w, Calls Tryd.prog 6 #[.int .i64 a1] w fun e w' => e = .returned (.tuple #[.agg #[.int .i64 y2, .int .i64 m2, .int .i64 d2], .int .i64 0]) ∧ Below w.heap.size w w') := fun w =>
    (of_in a1 w (by omega) (by omega)).mono (by rintro e w' ⟨y, m, d, rfl, hg', h0, hb⟩; obtain ⟨rfl, rfl, rfl⟩ := day_inj hg' g2 (by rw [h0, n2]); exact ⟨rfl, hb⟩)
  have hlt : a0 < a1 ↔ Ahead y1 m1 d1 y2 m2 d2 := by rw [← n1, ← n2]; exact day_lt g1 g2
  obtain ⟨X, hX⟩ : ∃ X, X = strOfNums (txt y1 m1 d1) := ⟨_, rfl⟩
  obtain ⟨Y, hY⟩ : ∃ Y, Y = strOfNums (txt y2 m2 d2) := ⟨_, rfl⟩
  have HXY : Hid (0 ≤ y1 → 0 ≤ y2 → Op.bytesLess X.toList Y.toList = decide (a0 < a1)) := fun p1 p2 => by
    rw [hX, hY, less_lex _ _ (txt_by g1) (txt_by g2)]
    have e1 : txt y1 m1 d1 = body y1 m1 d1 := by unfold txt; rw [if_neg (by omega)]
    have e2 : txt y2 m2 d2 = body y2 m2 d2 := by unfold txt; rw [if_neg (by omega)]
    rw [e1, e2, lex_body g1 g2 p1 p2]
    exact decide_eq_decide.2 hlt.symm
  have CX : Hid (∀ w, Ready w → Calls Tryd.prog 7 #[.agg #[.int .i64 y1, .int .i64 m1, .int .i64 d1]] w fun e w' => e = .returned (.string X) ∧ Below w.heap.size w w') := fun w r => by
    have a := g1.1; have b := g1.2.1; have c := g1.month; have d := g1.day
    have h := text_any y1 m1 d1 w r (by omega) (by omega) (by omega) (by omega) (by omega) (by omega)
    rw [if_pos g1, ← hX] at h
    exact h
  have CY : Hid (∀ w, Ready w → Calls Tryd.prog 7 #[.agg #[.int .i64 y2, .int .i64 m2, .int .i64 d2]] w fun e w' => e = .returned (.string Y) ∧ Below w.heap.size w w') := fun w r => by
    have a := g2.1; have b := g2.2.1; have c := g2.month; have d := g2.day
    have h := text_any y2 m2 d2 w r (by omega) (by omega) (by omega) (by omega) (by omega) (by omega)
    rw [if_pos g2, ← hY] at h
    exact h
  unfold Ahead at hlt
  clear g1 n1 g2 n2 hX hY by0 by1 r1 r2
  have tri : Hid (y1 < y2 ∨ (y2 = y1 ∧ m1 < m2) ∨ (y2 = y1 ∧ m2 = m1 ∧ d1 < d2) ∨ (y2 = y1 ∧ m2 = m1 ∧ d2 = d1) ∨ y2 < y1 ∨ (y2 = y1 ∧ m2 < m1) ∨ (y2 = y1 ∧ m2 = m1 ∧ d2 < d1)) := by show _ ∨ _; omega
  have HLT : Hid (a0 < a1 ↔ y1 < y2 ∨ y1 = y2 ∧ (m1 < m2 ∨ m1 = m2 ∧ d1 < d2)) := hlt
  clear hlt
  go_enter Tryd.func3, Tryd.ntmps3
  go_upto_region 7 with (first | (go_at_call 6; have hgo := HB2.out; clear hgo; refine (C2.out _).mono ?_; rintro e w3 ⟨rfl, hb3⟩; have HB3 : Hid (Below w.heap.size w w3) := (HB2.out.alloc HB2.out.size _).trans (hb3.mono (by simp; exact Nat.le_trans HB2.out.size (Nat.le_succ _))); have HD := (DateAt.made w2 24 y1 m1 d1).below hb3 (by simp); have hd0 := cell_past HD.c0; have hd1 := cell_past HD.c1; have hd2 := cell_past HD.c2; clear hb3 HD) | (go_at_call 6; refine (C1.out _).mono ?_; rintro e w2 ⟨rfl, hb2⟩; have HB2 : Hid (Below w.heap.size w w2) := HB1.out.trans (hb2.mono HB1.out.size); clear hb2) | (go_at_call 5; refine AW.out.mono ?_; rintro e w1 ⟨rfl, hb1⟩; have HB1 : Hid (Below w.heap.size w w1) := hb1; clear hb1))
  have HBV : Hid (Below w.heap.size w (w3.alloc (Obj.cells #[Value.int IntKind.i64 y2, Value.int IntKind.i64 m2, Value.int IntKind.i64 d2] 24))) := HB3.out.alloc HB3.out.size _
  have HD1 : Hid (DateAt (w3.alloc (Obj.cells #[Value.int IntKind.i64 y2, Value.int IntKind.i64 m2, Value.int IntKind.i64 d2] 24)) w2.heap.size y1 m1 d1) := ⟨hd0 _, hd1 _, hd2 _⟩
  have HD2 : Hid (DateAt (w3.alloc (Obj.cells #[Value.int IntKind.i64 y2, Value.int IntKind.i64 m2, Value.int IntKind.i64 d2] 24)) w3.heap.size y2 m2 d2) := DateAt.made w3 24 y2 m2 d2
  generalize hv : w3.alloc (Obj.cells #[Value.int IntKind.i64 y2, Value.int IntKind.i64 m2, Value.int IntKind.i64 d2] 24) = v at HBV HD1 HD2 ⊢
  clear hv hd0 hd1 hd2
  go_cut [9] (fun c wx => c = .bool (decide (a0 < a1)) ∧ wx = v)
  case first =>
    have q0 := HD1.out.c0
    have q1 := HD1.out.c1
    have q2 := HD1.out.c2
    have p0 := HD2.out.c0
    have p1 := HD2.out.c1
    have p2 := HD2.out.c2
    clear CX CY HXY AW C1 C2
    rcases tri.out with c | ⟨rfl, c⟩ | ⟨rfl, rfl, c⟩ | ⟨rfl, rfl, rfl⟩ | c | ⟨rfl, c⟩ | ⟨rfl, rfl, c⟩
    · have HA : Hid (a0 < a1) := HLT.out.2 (.inl c)
      clear tri HLT
      go_wp2
      go_meet
      case rel => exact ⟨congrArg Value.bool (by rw [eq_comm]; exact decide_eq_true HA.out), rfl⟩
    · have HA : Hid (a0 < a1) := HLT.out.2 (.inr ⟨rfl, .inl c⟩)
      clear tri HLT
      go_wp2
      go_meet
      case rel => exact ⟨congrArg Value.bool (by rw [eq_comm]; exact decide_eq_true HA.out), rfl⟩
    · have HA : Hid (a0 < a1) := HLT.out.2 (.inr ⟨rfl, .inr ⟨rfl, c⟩⟩)
      clear tri HLT
      go_wp2
      go_meet
      case rel => exact ⟨congrArg Value.bool (by rw [eq_comm]; exact decide_eq_true HA.out), rfl⟩
    · have HA : Hid (¬ a0 < a1) := fun h => by have := HLT.out.1 h; omega
      clear tri HLT
      go_wp2
      go_meet
      case rel => exact ⟨congrArg Value.bool (by rw [eq_comm]; exact decide_eq_false (by have := HA.out; omega)), rfl⟩
    · have HA : Hid (¬ a0 < a1) := fun h => by have := HLT.out.1 h; omega
      clear tri HLT
      have n1 : ¬ y1 < y2 := by omega
      have n2 : ¬ y1 = y2 := by omega
      clear c
      go_wp2
      go_meet
      case rel => exact ⟨congrArg Value.bool (by rw [eq_comm]; exact decide_eq_false (by have := HA.out; omega)), rfl⟩
    · have HA : Hid (¬ a0 < a1) := fun h => by have := HLT.out.1 h; omega
      clear tri HLT
      have n1 : ¬ m1 < m2 := by omega
      have n2 : ¬ m1 = m2 := by omega
      clear c
      go_wp2
      go_meet
      case rel => exact ⟨congrArg Value.bool (by rw [eq_comm]; exact decide_eq_false (by have := HA.out; omega)), rfl⟩
    · have HA : Hid (¬ a0 < a1) := fun h => by have := HLT.out.1 h; omega
      clear tri HLT
      have n1 : ¬ d1 < d2 := by omega
      clear c
      go_wp2
      go_meet
      case rel => exact ⟨congrArg Value.bool (by rw [eq_comm]; exact decide_eq_false (by have := HA.out; omega)), rfl⟩
  case rest =>
    obtain ⟨rfl, rfl⟩ := hcut
    obtain ⟨v, rfl⟩ : ∃ v : World, v = wc := ⟨wc, rfl⟩
    clear tri HLT
    by_cases s1 : y1 < 0
    · have s1d : decide (y1 < 0) = true := decide_eq_true s1
      have q0 := HD1.out.c0
      clear CX CY HXY AW C1 C2
      cases habd : decide (a0 < a1)
      all_goals
        go_wp2
        go_quiet (fail)
        go_wp2
        go_ret
        exact ⟨rfl, below_dN HBV.out _⟩
    by_cases s2 : y2 < 0
    · have s1d : decide (y1 < 0) = false := decide_eq_false s1
      have s2d : decide (y2 < 0) = true := decide_eq_true s2
      have q0 := HD1.out.c0
      have p0 := HD2.out.c0
      clear CX CY HXY AW C1 C2 s1
      cases habd : decide (a0 < a1)
      all_goals
        go_wp2
        go_quiet (fail)
        go_wp2
        go_ret
        exact ⟨rfl, below_dN HBV.out _⟩
    have QR : Hid (∀ u, Below v.heap.size v u → Ready u) := fun u h => RR.out.on (HBV.out.trans (h.mono HBV.out.size))
    have VX : Hid (∀ u, Below v.heap.size v u → Calls Tryd.prog 7 #[.agg #[.int .i64 y1, .int .i64 m1, .int .i64 d1]] u fun e w' => e = .returned (.string X) ∧ Below v.heap.size v w') := fun u h => (CX.out u (QR.out u h)).mono (by rintro e w' ⟨rfl, h'⟩; exact ⟨rfl, h.trans (h'.mono h.size)⟩)
    have VY : Hid (∀ u, Below v.heap.size v u → Calls Tryd.prog 7 #[.agg #[.int .i64 y2, .int .i64 m2, .int .i64 d2]] u fun e w' => e = .returned (.string Y) ∧ Below v.heap.size v w') := fun u h => (CY.out u (QR.out u h)).mono (by rintro e w' ⟨rfl, h'⟩; exact ⟨rfl, h.trans (h'.mono h.size)⟩)
    have KS : Hid (∀ w', Below v.heap.size v w' → Below v.heap.size v w' ∧ w'.cell? ⟨w2.heap.size, 0, none⟩ = some (.int .i64 y1) ∧ w'.cell? ⟨w2.heap.size, 1, none⟩ = some (.int .i64 m1) ∧ w'.cell? ⟨w2.heap.size, 2, none⟩ = some (.int .i64 d1) ∧ w'.cell? ⟨w3.heap.size, 0, none⟩ = some (.int .i64 y2) ∧ w'.cell? ⟨w3.heap.size, 1, none⟩ = some (.int .i64 m2) ∧ w'.cell? ⟨w3.heap.size, 2, none⟩ = some (.int .i64 d2)) := fun w' h =>
      ⟨h, (HD1.out.below h (lt_of_cell' HD1.out.c0)).c0, (HD1.out.below h (lt_of_cell' HD1.out.c0)).c1, (HD1.out.below h (lt_of_cell' HD1.out.c0)).c2, (HD2.out.below h (lt_of_cell' HD2.out.c0)).c0, (HD2.out.below h (lt_of_cell' HD2.out.c0)).c1, (HD2.out.below h (lt_of_cell' HD2.out.c0)).c2⟩
    have s1d : decide (y1 < 0) = false := decide_eq_false s1
    have s2d : decide (y2 < 0) = false := decide_eq_false s2
    have hxy := HXY.out (by omega) (by omega)
    clear CX CY HXY AW C1 C2 s1 s2
    cases habd : decide (a0 < a1)
    all_goals
      rw [habd] at hxy
      go_wp2
      go_region_held3 (fun w' => Below v.heap.size v w' ∧ w'.cell? ⟨w2.heap.size, 0, none⟩ = some (.int .i64 y1) ∧ w'.cell? ⟨w2.heap.size, 1, none⟩ = some (.int .i64 m1) ∧ w'.cell? ⟨w2.heap.size, 2, none⟩ = some (.int .i64 d1) ∧ w'.cell? ⟨w3.heap.size, 0, none⟩ = some (.int .i64 y2) ∧ w'.cell? ⟨w3.heap.size, 1, none⟩ = some (.int .i64 m2) ∧ w'.cell? ⟨w3.heap.size, 2, none⟩ = some (.int .i64 d2)) (first | exact KS.out _ (by assumption) | exact KS.out _ (Below.refl _ _).drew) (first | (go_at_call 7; have hgo := HBX.out; clear hgo; refine (VY.out _ (by first | assumption | exact (Below.refl _ _).drew)).mono ?_; rintro e w5 ⟨rfl, hb5⟩) | (go_at_call 7; refine (VX.out _ (by first | assumption | exact (Below.refl _ _).drew)).mono ?_; rintro e w4 ⟨rfl, hb4⟩; have HBX : Hid (Below v.heap.size v w4) := hb4))
      go_wp2
      go_ret
      exact ⟨rfl, HBV.out.trans (hb5.mono HBV.out.size)⟩

set_option maxRecDepth 100000 in
theorem lifted (os : Os) (started : os.Started) (H : Type) (enc : TypeId × Value → H) :
    ReturnsInHanded {} Tryd.checked os 3 .any (fun w args => (Rows.civilOrderSpec.pre enc Tryd.prog Tryd.f3 Rows.civilOrderRow.domain false w args ∧ laidMet Tryd.prog laid3 w) ∧ sizedMet enc Tryd.prog Tryd.f3 (OpenSpec.ofChange Rows.civilOrderSpec) false w args)
      (Rows.civilOrderSpec.post enc Tryd.prog Tryd.f3 false true false false) := by
  refine returnsInHanded_of_change_and (C := Tryd.checked) (X := fun w _ => laidMet Tryd.prog laid3 w) (fun _ _ _ hh h => h.of_heap hh) own started (by kernel_rfl) Tryd.func3
    (ChangeSpec.witness_at (enc := enc) (C := Tryd.checked) (os := os) (X := fun w _ => laidMet Tryd.prog laid3 w) false (laidWorld3 os) #[.int .i64 0, .int .i64 0] 8 rfl (by kernel_rfl) (by kernel_rfl) (by kernel_rfl) (by kernel_rfl) (by kernel_rfl) (laid3_met os _)) ?_
  intro W base args ds gs before hval0 hW _ _ hL _
  have hval : ∀ (j : Nat) t v, Tryd.f3.params[j]? = some t → args[j]? = some v → Value.okWide Tryd.prog W .any base t v := hval0
  have hW' := hW
  obtain ⟨p, q, hA0, hV, rfl, hfz, hnd⟩ := hW
  have hA : DataW.TrodAll enc Tryd.prog W 0 (fun _ => true) true Tryd.f3.params.toList args.toList ds p := hA0
  rw [Tryd.params3] at hA hval
  obtain ⟨v0, vs0, d0, ds0, p0, q0, hargs, rfl, rfl, h0, r0⟩ := trodAll_cons hA
  obtain ⟨v1, vs1, d1, ds1, p1, q1, rfl, rfl, rfl, h1, r1⟩ := trodAll_cons r0
  obtain ⟨rfl, rfl, rfl⟩ := trodAll_nil r1
  obtain rfl : args = #[v0, v1] := by cases args; simp_all
  obtain ⟨rfl, rfl⟩ := trodVars_none hV
  have k0 := h0
  have lt0 : ∀ x ∈ p0, x.block < W.heap.size := by obtain ⟨m, hm⟩ := k0; exact DataW.trod_lt m _ _ _ hm
  obtain ⟨a0, rfl, rfl, rfl, w0⟩ := open_int Tryd.underlying2 (hval 0 2 v0 rfl rfl) h0
  have k1 := h1
  have lt1 : ∀ x ∈ p1, x.block < W.heap.size := by obtain ⟨m, hm⟩ := k1; exact DataW.trod_lt m _ _ _ hm
  obtain ⟨a1, rfl, rfl, rfl, w1⟩ := open_int Tryd.underlying2 (hval 1 2 v1 rfl rfl) h1
  clear hA0 hval0
  refine (walk a0 a1 W w0 w1 (ready_of hL)).mono fun e W' ⟨he, bel⟩ => ?_
  subst he
  exact ⟨_, rfl, _, _, _, [], _, [], hW', trodAll_mk1 (shut_bool Tryd.underlying4 _), (trodAll_cons_mk (Below.trod laidOut (by kernel_rfl) (of_decide_eq_true (by kernel_rfl)) k0 bel lt0) (trodAll_cons_mk (Below.trod laidOut (by kernel_rfl) (of_decide_eq_true (by kernel_rfl)) k1 bel lt1) trodAll_mk0)), rfl, bel.frame _, fun h => by cases h⟩

theorem over : Rows.civilOrderRow.holds Tryd.pinned (OpenSpec.ofChange Rows.civilOrderSpec) :=
  OpenClaim.holds_of_wide 3 Tryd.f3 rfl rfl rfl rfl rfl rfl rfl ⟨rfl, rfl, rfl, rfl, rfl⟩ rfl rfl rfl rfl rfl (by kernel_rfl) Tryd.func3 (by kernel_rfl)
    (of_decide_eq_true (by kernel_rfl)) (by unfold Func.isWrapper; first | (rw [if_pos (by decide +kernel)]; kernel_rfl) | (rw [if_neg (by decide +kernel)]; exact ⟨rfl, rfl⟩))
    (fun os started H enc _ => lifted os started H enc)
theorem carded : Rows.CivilOrderCardSaid :=
  Claim7.holds_tied_plain_at .later [] [.data, .data, .data] true (true, "1bbd7b10973bf05741033d21600b41985aa3b2b0abf14865089bae397c9c9d0b") false
    over (fun _ h => by cases h) (by kernel_rfl) (fun _ h => by cases h) civilOrder_row_tie rfl ⟨rfl, rfl⟩ (by kernel_rfl) rfl
    (fun f fn hf hfn => by
      obtain rfl : f = 3 := Option.some.inj ((show Tryd.prog.funcNamed "hourglass/hourglasslaw4.CivilOrder" = some 3 by kernel_rfl).symm.trans hf) |>.symm
      obtain rfl : fn = Tryd.f3 := (Option.some.inj (Tryd.func3.symm.trans hfn)).symm
      exact ⟨by kernel_rfl, fun j t ht => by
        rw [Tryd.params3] at ht
        have hm : t ∈ [2, 2] := by simpa using Array.mem_of_getElem? ht
        have hall : ([2, 2].all fun u => !Tryd.prog.wantsStandIn u) = true := by kernel_rfl
        exact (show Tryd.prog.wantsStandIn t = false by simpa using List.all_eq_true.1 hall t hm)⟩)
    (by kernel_rfl)
#print axioms carded
end Go.Proofs.YtglommaegcaodabDoor.civilOrder
namespace Go.Proofs.YtglommaegcaodabDoor
/-- CivilOrder, as given. -/
theorem civilOrder_holds : Rows.CivilOrderCardSaid := civilOrder.carded
end Go.Proofs.YtglommaegcaodabDoor
