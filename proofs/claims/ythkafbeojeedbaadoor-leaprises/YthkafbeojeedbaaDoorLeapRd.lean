/-
  What the landed reading of a table's line (leap: readOffset, readLine) answers, where the library's two errors hold values of their type.
-/
import Derived.Test.YthkafbeojeedbaaDoorLeapBld
namespace Go.Proofs.YthkafbeojeedbaaDoor
open Go.RowKit
set_option linter.unusedVariables false

/-- The library's errors for faults of form and of size are some values of their type. -/
structure LE (w : World) : Prop where
  syn : ErrSyn w
  ran : ∃ tp p, w.var? Tryd.prog "strconv.ErrRange" = some #[.iface tp p]
theorem LE.on {w w' : World} (h : LE w) (hb : Below w.heap.size w w') : LE w' := by
  refine ⟨h.syn.on hb, ?_⟩
  obtain ⟨tp, p, h⟩ := h.ran
  refine ⟨tp, p, ?_⟩
  unfold World.var? at *
  cases hg : Tryd.prog.globalNamed "strconv.ErrRange" with
  | none => simp [hg] at h
  | some g =>
    simp only [hg, Option.bind_some] at h ⊢
    have hlt : g < w.heap.size := by
      rcases Nat.lt_or_ge g w.heap.size with h' | h'
      · exact h'
      · rw [Array.getElem?_eq_none h'] at h; simp at h
    rw [hb.block g hlt]
    exact h
theorem ot_byte (n : Int) : ∀ z ∈ ot n, 0 ≤ z ∧ z ≤ 255 := fun z hz => by
  rcases ot_by n z hz with h | h <;> omega
theorem bts_str (xs : List Int) : (⟨(bts xs).toArray⟩ : ByteArray) = strOfNums xs := by simp [strOfNums, bts]
/-- What comes back of an offset's text. -/
structure ORes (xs : List Int) (e : Ending) : Prop where
  no : offN xs = none → ∃ n : Int, e = .returned (.tuple #[.int .i64 n, .bool false])
  good : ∀ n, offN xs = some n → e = .returned (.tuple #[.int .i64 n, .bool true])
set_option maxHeartbeats 1000000 in
theorem readoff_any (xs : List Int) (w : World) (hR : Ready w) (hE : LE w) (hb : ∀ z ∈ xs, 0 ≤ z ∧ z ≤ 255) (hl : xs.length ≤ 3000) :
    Calls Tryd.prog 40 #[.string (strOfNums xs)] w fun e w' => ORes xs e ∧ Below w.heap.size w w' := by
  have hsz := strOfNums_size xs
  have hd : (strOfNums xs).data.toList = bts xs := by simp [strOfNums, bts]
  have HA : Hid (∀ n, offN xs = some n → Lib.atoiAll (bts xs) = .ok n) := fun n h => by
    obtain ⟨h1, h2⟩ := off_some h
    rw [← h2]
    exact atoi_ot h1
  obtain ⟨S, hS⟩ : ∃ S, S = strOfNums xs := ⟨_, rfl⟩
  cases h : Lib.atoiAll (bts xs) with
  | ok v =>
    obtain ⟨v1, v2⟩ := Lib.atoiAll_bounds h
    obtain ⟨I, hI⟩ : ∃ I : ByteArray, I = ⟨(Lib.itoa v).toArray⟩ := ⟨_, rfl⟩
    have C1 : Hid (Calls Tryd.prog 47 #[.string S] w fun e w' => e = .returned (.tuple #[.int .i64 v, .nilIface]) ∧ Below w.heap.size w w') := by
      rw [hS]
      exact (Tryd.strconv_Atoi_ok (strOfNums xs) (by omega) v (by rw [hd]; exact h) w).mono (by
        rintro e w' ⟨rfl, hw⟩
        refine ⟨rfl, ?_⟩
        rcases hw with rfl | ⟨t, rfl⟩
        · exact Below.refl _ _
        · exact Lib.bytesWorld_below _ _ _)
    have C2 : Hid (∀ u, Ready u → Calls Tryd.prog 32 #[.int .i64 v] u fun e w' => e = .returned (.string I) ∧ Below u.heap.size u w') := fun u r => by
      rw [hI]
      exact (Tryd.strconv_Itoa v v1 v2 u r).mono (by rintro e w' ⟨rfl, k, os, rfl⟩; exact ⟨rfl, Lib.below_grow _ u (Nat.le_refl _) k os⟩)
    have RR : Hid (Ready w) := hR
    by_cases hr : -9999 ≤ v ∧ v ≤ 9999
    · have hI2 : I = strOfNums (ot v) := by rw [hI, itoa_ot hr, bts_str]
      obtain ⟨r1, r2⟩ := hr
      by_cases he : ot v = xs
      · have HO : Hid (offN xs = some v) := by rw [← he]; exact off_ot ⟨r1, r2⟩
        have hq : (I.toList == S.toList) = true := by rw [hI2, hS, he]; simp
        rw [← hS]
        clear hI hI2 hS hd h hsz hb hl he hR hE
        go_enter Tryd.func40, Tryd.ntmps40
        go_wp2_with (first | (go_at_call 32; refine (C2.out _ (RR.out.on B1.out)).mono ?_; rintro e w2 ⟨rfl, hb2⟩; have B2 : Hid (Below w.heap.size w w2) := B1.out.trans (hb2.mono B1.out.size); clear hb2) | (go_at_call 47; refine C1.out.mono ?_; rintro e w1 ⟨rfl, hb1⟩; have B1 : Hid (Below w.heap.size w w1) := hb1; clear hb1))
        go_ret2
        exact ⟨⟨fun h => by rw [HO.out] at h; (cases h), fun n h => by rw [HO.out] at h; cases h; rfl⟩, B2.out⟩
      · have HO : Hid (offN xs = none) := by
          cases ho : offN xs with
          | none => rfl
          | some n =>
            have := HA.out n ho
            rw [h] at this
            cases this
            exact absurd (off_some ho).2 he
        have hq : (I.toList == S.toList) = false := by
          rw [hI2, hS]
          simp only [beq_eq_false_iff_ne, ne_eq]
          exact fun h' => he (str_inj (ot_byte v) hb h')
        rw [← hS]
        clear hI hI2 hS hd h hsz hb hl he hR hE
        go_enter Tryd.func40, Tryd.ntmps40
        go_wp2_with (first | (go_at_call 32; refine (C2.out _ (RR.out.on B1.out)).mono ?_; rintro e w2 ⟨rfl, hb2⟩; have B2 : Hid (Below w.heap.size w w2) := B1.out.trans (hb2.mono B1.out.size); clear hb2) | (go_at_call 47; refine C1.out.mono ?_; rintro e w1 ⟨rfl, hb1⟩; have B1 : Hid (Below w.heap.size w w1) := hb1; clear hb1))
        go_ret2
        exact ⟨⟨fun h => ⟨v, rfl⟩, fun n h => by rw [HO.out] at h; (cases h)⟩, B2.out⟩
    · have HO : Hid (offN xs = none) := by
        cases ho : offN xs with
        | none => rfl
        | some n =>
          have := HA.out n ho
          rw [h] at this
          cases this
          exact absurd (off_some ho).1 hr
      rw [← hS]
      clear hI hS hd h hsz hb hl hR hE
      obtain ⟨q, hq⟩ : ∃ q, (I.toList == S.toList) = q := ⟨_, rfl⟩
      cases q with
      | false =>
        go_enter Tryd.func40, Tryd.ntmps40
        go_wp2_with (first | (go_at_call 32; refine (C2.out _ (RR.out.on B1.out)).mono ?_; rintro e w2 ⟨rfl, hb2⟩; have B2 : Hid (Below w.heap.size w w2) := B1.out.trans (hb2.mono B1.out.size); clear hb2) | (go_at_call 47; refine C1.out.mono ?_; rintro e w1 ⟨rfl, hb1⟩; have B1 : Hid (Below w.heap.size w w1) := hb1; clear hb1))
        go_ret2
        exact ⟨⟨fun h => ⟨v, rfl⟩, fun n h => by rw [HO.out] at h; (cases h)⟩, B2.out⟩
      | true =>
        by_cases h9 : -9999 ≤ v
        · have h9b : ¬ v ≤ 9999 := fun h => hr ⟨h9, h⟩
          have h9d : decide (v ≤ 9999) = false := decide_eq_false h9b
          clear hr
          go_enter Tryd.func40, Tryd.ntmps40
          go_wp2_with (first | (go_at_call 32; refine (C2.out _ (RR.out.on B1.out)).mono ?_; rintro e w2 ⟨rfl, hb2⟩; have B2 : Hid (Below w.heap.size w w2) := B1.out.trans (hb2.mono B1.out.size); clear hb2) | (go_at_call 47; refine C1.out.mono ?_; rintro e w1 ⟨rfl, hb1⟩; have B1 : Hid (Below w.heap.size w w1) := hb1; clear hb1))
          go_ret2
          exact ⟨⟨fun h => ⟨v, rfl⟩, fun n h => by rw [HO.out] at h; (cases h)⟩, B2.out⟩
        · clear hr
          go_enter Tryd.func40, Tryd.ntmps40
          go_wp2_with (first | (go_at_call 32; refine (C2.out _ (RR.out.on B1.out)).mono ?_; rintro e w2 ⟨rfl, hb2⟩; have B2 : Hid (Below w.heap.size w w2) := B1.out.trans (hb2.mono B1.out.size); clear hb2) | (go_at_call 47; refine C1.out.mono ?_; rintro e w1 ⟨rfl, hb1⟩; have B1 : Hid (Below w.heap.size w w1) := hb1; clear hb1))
          go_ret2
          exact ⟨⟨fun h => ⟨v, rfl⟩, fun n h => by rw [HO.out] at h; (cases h)⟩, B2.out⟩
  | «syntax» =>
    have HO : Hid (offN xs = none) := by
      cases ho : offN xs with
      | none => rfl
      | some n => have := HA.out n ho; rw [h] at this; cases this
    obtain ⟨tp, p, hv⟩ := hE.syn
    have C1 : Hid (Calls Tryd.prog 47 #[.string S] w fun e w' => (∃ t q, e = .returned (.tuple #[.int .i64 0, .iface t (.pointer (some q))])) ∧ Below w.heap.size w w') := by
      rw [hS]
      exact (Tryd.strconv_Atoi_syntax_var (strOfNums xs) (by omega) (by rw [hd]; exact h) tp p w hv).mono (by
        rintro e w' ⟨N, rfl, _, _, hb⟩
        exact ⟨⟨_, _, rfl⟩, hb⟩)
    rw [← hS]
    clear hS hd h hsz hb hl hR hE hv HA
    go_enter Tryd.func40, Tryd.ntmps40
    go_wp2_with (go_at_call 47; refine C1.out.mono ?_; rintro e w1 ⟨⟨t, q, rfl⟩, hb1⟩)
    go_ret2
    exact ⟨⟨fun h => ⟨0, rfl⟩, fun n h => by rw [HO.out] at h; (cases h)⟩, hb1⟩
  | range =>
    have HO : Hid (offN xs = none) := by
      cases ho : offN xs with
      | none => rfl
      | some n => have := HA.out n ho; rw [h] at this; cases this
    obtain ⟨tp, p, hv⟩ := hE.ran
    have C1 : Hid (Calls Tryd.prog 47 #[.string S] w fun e w' => (∃ t q, e = .returned (.tuple #[.int .i64 (Lib.atoiSat (bts xs)), .iface t (.pointer (some q))])) ∧ Below w.heap.size w w') := by
      rw [hS]
      exact (Tryd.strconv_Atoi_range_var (strOfNums xs) (by omega) (by rw [hd]; exact h) tp p w hv).mono (by
        rintro e w' ⟨N, rfl, _, _, hb⟩
        exact ⟨⟨_, _, by rw [hd]⟩, hb⟩)
    obtain ⟨Z, hZ⟩ : ∃ Z, Z = Lib.atoiSat (bts xs) := ⟨_, rfl⟩
    rw [← hS]
    rw [← hZ] at C1
    clear hS hd h hsz hb hl hR hE hv HA hZ
    go_enter Tryd.func40, Tryd.ntmps40
    go_wp2_with (go_at_call 47; refine C1.out.mono ?_; rintro e w1 ⟨⟨t, q, rfl⟩, hb1⟩)
    go_ret2
    exact ⟨⟨fun h => ⟨Z, rfl⟩, fun n h => by rw [HO.out] at h; (cases h)⟩, hb1⟩
/-- A result's two cells, made and not yet given out. -/
structure Out2 (w v : World) : Prop where
  c0 : v.cell? ⟨w.heap.size, 0, none⟩ = some (.int .i64 0)
  c1 : v.cell? ⟨w.heap.size, 1, none⟩ = some (.int .i64 0)
  free : ∀ j, v.frozen? ⟨w.heap.size, j, none⟩ = false
  below : Below w.heap.size w v
  lt : w.heap.size < v.heap.size
theorem Out2.made (w : World) (t : TypeId) : Out2 w (w.alloc (.cells #[.int .i64 0, .int .i64 0] t)) :=
  ⟨by rw [World.cell?_alloc_new]; rfl, by rw [World.cell?_alloc_new]; rfl, fun j => World.frozen?_alloc_new _ _ _ _, (Below.refl _ _).alloc (Nat.le_refl _) _, by simp⟩
theorem Out2.step {w v v' : World} (h : Out2 w v) (hb : Below v.heap.size v v') : Out2 w v' :=
  ⟨by rw [hb.cell (p := ⟨w.heap.size, 0, none⟩) h.lt]; exact h.c0, by rw [hb.cell (p := ⟨w.heap.size, 1, none⟩) h.lt]; exact h.c1, fun j => (hb.frozen (p := ⟨w.heap.size, j, none⟩) h.lt).trans (h.free j), h.below.trans (hb.mono h.below.size), Nat.lt_of_lt_of_le h.lt hb.size⟩
theorem Out2.past {w v : World} (h : Out2 w v) (o : Obj) : Out2 w (v.alloc o) := h.step ((Below.refl _ _).alloc (Nat.le_refl _) o)
theorem set_same2 {w : World} {g : Nat} {a b : Value} (h0 : w.cell? ⟨g, 0, none⟩ = some a) (h1 : w.cell? ⟨g, 1, none⟩ = some b) : (∀ x, (w.setCell ⟨g, 0, none⟩ x).cell? ⟨g, 0, none⟩ = some x) ∧ (∀ x y, ((w.setCell ⟨g, 0, none⟩ x).setCell ⟨g, 1, none⟩ y).cell? ⟨g, 1, none⟩ = some y) ∧ (∀ x y, ((w.setCell ⟨g, 0, none⟩ x).setCell ⟨g, 1, none⟩ y).cell? ⟨g, 0, none⟩ = some x) :=
  ⟨fun x => World.cell?_setCell_same _ _ _ h0, fun x y => World.cell?_setCell_same _ _ _ ((World.cell?_setCell_other _ _ _ _ (by intro h'; injection h' with _ h2; omega)).trans h1), fun x y => (World.cell?_setCell_other _ _ _ _ (by intro h'; injection h' with _ h2; omega)).trans (World.cell?_setCell_same _ _ _ h0)⟩
/-- What comes back of a line. -/
structure PRes (l : List Int) (e : Ending) : Prop where
  no : plN l = none → ∃ a b : Int, e = .returned (.tuple #[.agg #[.int .i64 a, .int .i64 b], .bool false])
  good : ∀ p, plN l = some p → e = .returned (.tuple #[.agg #[.int .i64 p.1, .int .i64 p.2], .bool true])
set_option maxRecDepth 4000 in
set_option maxHeartbeats 1000000 in
theorem rline_any (l : List Int) (w : World) (hR : Ready w) (hE : LE w) (hb : ∀ z ∈ l, 0 ≤ z ∧ z ≤ 255) (hl : l.length ≤ 3000) :
    Calls Tryd.prog 22 #[.string (strOfNums l)] w fun e w' => PRes l e ∧ Below w.heap.size w w' := by
  obtain ⟨bA, bB⟩ := cut1_by 32 l hb
  obtain ⟨lA, lB, _⟩ := cut1_len 32 l
  have hpl := pl_cut l
  have CC : Hid (∀ u, Calls Tryd.prog 21 #[.string (strOfNums l), .string ⟨#[32]⟩] u fun e w' => e = .returned (.tuple #[.string (strOfNums (cut1 32 l).1), .string (strOfNums (cut1 32 l).2.1), .bool (cut1 32 l).2.2]) ∧ Below u.heap.size u w') := fun u => cut_any l 32 (by decide) hb (by omega) u
  obtain ⟨A, hA⟩ : ∃ A, A = (cut1 32 l).1 := ⟨_, rfl⟩
  obtain ⟨B, hB⟩ : ∃ B, B = (cut1 32 l).2.1 := ⟨_, rfl⟩
  obtain ⟨f, hf⟩ : ∃ f, f = (cut1 32 l).2.2 := ⟨_, rfl⟩
  rw [← hA] at bA lA hpl
  rw [← hB] at bB lB hpl
  rw [← hA, ← hB, ← hf] at CC
  clear hA hB hf
  obtain ⟨SA, hSA⟩ : ∃ S, S = strOfNums A := ⟨_, rfl⟩
  obtain ⟨SB, hSB⟩ : ∃ S, S = strOfNums B := ⟨_, rfl⟩
  obtain ⟨SL, hSL⟩ : ∃ S, S = strOfNums l := ⟨_, rfl⟩
  rw [← hSA, ← hSB, ← hSL] at CC
  rw [← hSL]
  have RR : Hid (Ready w) := hR
  have EE : Hid (LE w) := hE
  cases hp : parseN A with
  | none =>
    rw [hp] at hpl
    have HO : Hid (plN l = none) := by show _ = _; rw [hpl]
    have CP : Hid (∀ u, Ready u → LE u → Calls Tryd.prog 38 #[.string SA] u fun e w' => e = .returned (.tuple #[.agg #[.int .i64 0, .int .i64 0, .int .i64 0], .int .i64 3]) ∧ Below u.heap.size u w') := fun u r x => by
      rw [hSA]
      exact (parse_any A u r x.syn bA (by omega)).mono (by rintro e w' ⟨⟨_, h⟩, hb⟩; exact ⟨h hp, hb⟩)
    clear hpl hp hSA hSB hSL bA bB lA lB hb hl hR hE
    have M0 : Hid (Out2 w (w.alloc (.cells #[.int .i64 0, .int .i64 0] 53))) := Out2.made w 53
    go_enter Tryd.func22, Tryd.ntmps22
    go_wp2_with (first | (go_at_call 38; refine (CP.out _ (RR.out.on M1.out.below) (EE.out.on M1.out.below)).mono ?_; rintro e w2 ⟨rfl, hb2⟩; have M2 : Hid (Out2 w (w2.alloc (.cells #[.int .i64 0, .int .i64 0, .int .i64 0] 38))) := (M1.out.step hb2).past _; have z0 := M2.out.c0; have z1 := M2.out.c1; have f0 := M2.out.free 0; have f1 := M2.out.free 1; clear hb2) | (go_at_call 21; refine (CC.out _).mono ?_; rintro e w1 ⟨rfl, hb1⟩; have M1 : Hid (Out2 w w1) := M0.out.step hb1; clear hb1))
    obtain ⟨r0, r1, r2⟩ := set_same2 z0 z1
    (try simp only [Exit.inBlock, Exit.then])
    refine bodyPost_ret (v := .tuple #[.agg #[.int .i64 0, .int .i64 0], .bool false]) (by simp [results, Tryd.results22, go_sem, r1, r2]) rfl ?_
    exact ⟨⟨fun _ => ⟨0, 0, rfl⟩, fun p h => by rw [HO.out] at h; (cases h)⟩, (M2.out.below.setCell (Nat.le_refl _) _).setCell (Nat.le_refl _) _⟩
  | some q =>
    obtain ⟨y, m, d⟩ := q
    obtain ⟨hg, _⟩ := parse_some hp
    have CP : Hid (∀ u, Ready u → LE u → Calls Tryd.prog 38 #[.string SA] u fun e w' => e = .returned (.tuple #[.agg #[.int .i64 y, .int .i64 m, .int .i64 d], .int .i64 0]) ∧ Below u.heap.size u w') := fun u r x => by
      rw [hSA]
      exact (parse_any A u r x.syn bA (by omega)).mono (by rintro e w' ⟨⟨h, _⟩, hb⟩; exact ⟨h y m d hp, hb⟩)
    obtain ⟨D, hD⟩ : ∃ D, D = dayN y m d := ⟨_, rfl⟩
    have CD : Hid (∀ u, Calls Tryd.prog 39 #[.agg #[.int .i64 y, .int .i64 m, .int .i64 d]] u fun e w' => e = .returned (.tuple #[.int .i64 D, .int .i64 0]) ∧ Below u.heap.size u w') := fun u => by rw [hD]; exact days_good y m d u hg
    have CO : Hid (∀ u, Ready u → LE u → Calls Tryd.prog 40 #[.string SB] u fun e w' => (∃ n : Int, ∃ b : Bool, e = .returned (.tuple #[.int .i64 n, .bool b]) ∧ PRes l (.returned (.tuple #[.agg #[.int .i64 D, .int .i64 n], .bool b]))) ∧ Below u.heap.size u w') := fun u r x => by
      rw [hSB]
      refine (readoff_any B u r x bB (by omega)).mono ?_
      rintro e w' ⟨h, hb⟩
      refine ⟨?_, hb⟩
      cases ho : offN B with
      | none =>
        obtain ⟨n, rfl⟩ := h.no ho
        rw [hp, ho] at hpl
        exact ⟨n, false, rfl, fun _ => ⟨D, n, rfl⟩, fun p h => by rw [hpl] at h; (cases h)⟩
      | some n =>
        have he := h.good n ho
        rw [hp, ho] at hpl
        exact ⟨n, true, he, fun h => by rw [hpl] at h; (cases h), fun p h => by rw [hpl] at h; cases h; rw [hD]⟩
    clear hpl hp hSA hSB hSL bA bB lA lB hb hl hR hE hD hg
    have M0 : Hid (Out2 w (w.alloc (.cells #[.int .i64 0, .int .i64 0] 53))) := Out2.made w 53
    go_enter Tryd.func22, Tryd.ntmps22
    go_wp2_with (first | (go_at_call 40; refine (CO.out _ (RR.out.on M3.out.below) (EE.out.on M3.out.below)).mono ?_; rintro e w4 ⟨⟨n, b, rfl, hres⟩, hb4⟩; have HRES : Hid _ := hres; have M4 : Hid (Out2 w w4) := M3.out.step hb4; have z0 := M4.out.c0; have z1 := M4.out.c1; have f0 := M4.out.free 0; have f1 := M4.out.free 1; clear hb4 hres) | (go_at_call 39; refine (CD.out _).mono ?_; rintro e w3 ⟨rfl, hb3⟩; have M3 : Hid (Out2 w w3) := M2.out.step hb3; clear hb3) | (go_at_call 38; refine (CP.out _ (RR.out.on M1.out.below) (EE.out.on M1.out.below)).mono ?_; rintro e w2 ⟨rfl, hb2⟩; have M2 : Hid (Out2 w (w2.alloc (.cells #[.int .i64 y, .int .i64 m, .int .i64 d] 38))) := (M1.out.step hb2).past _; clear hb2) | (go_at_call 21; refine (CC.out _).mono ?_; rintro e w1 ⟨rfl, hb1⟩; have M1 : Hid (Out2 w w1) := M0.out.step hb1; clear hb1))
    all_goals rename_i hbt
    all_goals (try simp only [Bool.not_eq_true] at hbt)
    all_goals subst hbt
    all_goals obtain ⟨r0, r1, r2⟩ := set_same2 z0 z1
    all_goals (try simp only [Exit.inBlock, Exit.then])
    · refine bodyPost_ret (v := .tuple #[.agg #[.int .i64 D, .int .i64 n], .bool true]) (by simp [results, Tryd.results22, go_sem, r1, r2]) rfl ?_
      exact ⟨HRES.out, (M4.out.below.setCell (Nat.le_refl _) _).setCell (Nat.le_refl _) _⟩
    · refine bodyPost_ret (v := .tuple #[.agg #[.int .i64 D, .int .i64 n], .bool false]) (by simp [results, Tryd.results22, go_sem, r1, r2]) rfl ?_
      exact ⟨HRES.out, (M4.out.below.setCell (Nat.le_refl _) _).setCell (Nat.le_refl _) _⟩
end Go.Proofs.YthkafbeojeedbaaDoor
