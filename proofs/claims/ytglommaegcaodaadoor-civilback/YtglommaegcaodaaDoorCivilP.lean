/-
  What the landed reading of dates (civil: number, Parse) answers, where the library's variable for faults of form holds a value of its type.
-/
import Derived.Test.YtglommaegcaodaaDoorCivilC
import Derived.Lib.AtoiTie
import Derived.Lib.AtoiErrMem
namespace Go.Proofs.YtglommaegcaodaaDoor
open Go.RowKit
set_option linter.unusedVariables false

/-- The library's error for faults of form is some value of its type. -/
def ErrSyn (w : World) : Prop := ∃ tp p, w.var? Tryd.prog "strconv.ErrSyntax" = some #[.iface tp p]
theorem ErrSyn.on {w w' : World} (h : ErrSyn w) (hb : Below w.heap.size w w') : ErrSyn w' := by
  obtain ⟨tp, p, h⟩ := h
  refine ⟨tp, p, ?_⟩
  unfold World.var? at *
  cases hg : Tryd.prog.globalNamed "strconv.ErrSyntax" with
  | none => simp [hg] at h
  | some g =>
    simp only [hg, Option.bind_some] at h ⊢
    have hlt : g < w.heap.size := by
      rcases Nat.lt_or_ge g w.heap.size with h' | h'
      · exact h'
      · rw [Array.getElem?_eq_none h'] at h; simp at h
    rw [hb.block g hlt]
    exact h
/-- The number that a text is, or 0. -/
def nv (xs : List Int) : Int := (Lib.atoi (bts xs)).getD 0
theorem dec_dig : ∀ (xs : List Int) (a : Nat), Dig xs → Lib.decFrom a (bts xs) = some (List.foldl (fun a z => 10 * a + (z - 48)) (a : Int) xs).toNat
  | [], a, _ => by simp [bts, Lib.decFrom]
  | z :: xs, a, h => by
    have hz := h z (by simp)
    have e : (UInt8.ofNat z.toNat).toNat = z.toNat := by simp; omega
    have hd : Lib.digitVal (UInt8.ofNat z.toNat) = some (z.toNat - 48) := by
      unfold Lib.digitVal
      rw [e, if_pos (by omega)]
    have ih := dec_dig xs (a * 10 + (z.toNat - 48)) (fun y hy => h y (by simp [hy]))
    show (match Lib.digitVal (UInt8.ofNat z.toNat) with | some d => Lib.decFrom (a * 10 + d) (bts xs) | none => none) = _
    rw [hd]
    show Lib.decFrom (a * 10 + (z.toNat - 48)) (bts xs) = _
    rw [ih]
    have e2 : ((a * 10 + (z.toNat - 48) : Nat) : Int) = 10 * (a : Int) + (z - 48) := by omega
    rw [e2]
    rfl
theorem decNat_dig {xs : List Int} (h : Dig xs) (h0 : xs ≠ []) : Lib.decNat (bts xs) = some (vl xs).toNat := by
  unfold Lib.decNat
  rw [if_neg (by cases xs with | nil => exact absurd rfl h0 | cons z xs => simp [bts])]
  exact dec_dig xs 0 h
theorem nv_dig {xs : List Int} (h : Dig xs) (h0 : xs ≠ []) : nv xs = vl xs := by
  have hv := vl_nonneg xs h
  have hd := decNat_dig h h0
  cases xs with
  | nil => exact absurd rfl h0
  | cons z xs =>
    have hz := h z (by simp)
    have e : (UInt8.ofNat z.toNat).toNat = z.toNat := by simp; omega
    have n1 : ¬ (UInt8.ofNat z.toNat == 45) = true := by
      intro hh
      have := congrArg UInt8.toNat (eq_of_beq hh)
      rw [e] at this
      have e2 : (45 : UInt8).toNat = 45 := rfl
      omega
    have n2 : ¬ (UInt8.ofNat z.toNat == 43) = true := by
      intro hh
      have := congrArg UInt8.toNat (eq_of_beq hh)
      rw [e] at this
      have e2 : (43 : UInt8).toNat = 43 := rfl
      omega
    have : Lib.atoi (bts (z :: xs)) = (Lib.decNat (bts (z :: xs))).map fun (m : Nat) => (m : Int) := by
      show (if (UInt8.ofNat z.toNat == 45) = true then _ else if (UInt8.ofNat z.toNat == 43) = true then _ else _) = _
      rw [if_neg n1, if_neg n2]
      rfl
    unfold nv
    rw [this, hd]
    show (((vl (z :: xs)).toNat : Nat) : Int) = _
    omega
theorem nv_neg {xs : List Int} (h : Dig xs) (h0 : xs ≠ []) : nv (45 :: xs) = -vl xs := by
  have hv := vl_nonneg xs h
  have hd := decNat_dig h h0
  have : Lib.atoi (bts (45 :: xs)) = (Lib.decNat (bts xs)).map fun (m : Nat) => -(m : Int) := rfl
  unfold nv
  rw [this, hd]
  show -(((vl xs).toNat : Nat) : Int) = _
  omega
theorem nv_range (xs : List Int) (hl : xs.length ≤ 18) : -9223372036854775808 ≤ nv xs ∧ nv xs ≤ 9223372036854775807 := by
  unfold nv
  cases h : Lib.atoi (bts xs) with
  | none => decide
  | some v =>
    have := Lib.atoiAll_short (bts xs) (by simpa [bts] using hl)
    rw [h] at this
    exact Lib.atoiAll_bounds this
theorem number_any (xs : List Int) (w : World) (hE : ErrSyn w) (hl : xs.length ≤ 18) :
    Calls Tryd.prog 28 #[.string (strOfNums xs)] w fun e w' => e = .returned (.int .i64 (nv xs)) ∧ Below w.heap.size w w' := by
  have hs := strOfNums_size xs
  have hsh := Lib.atoiAll_short (bts xs) (by simpa [bts] using hl)
  cases h : Lib.atoi (bts xs) with
  | some v =>
    rw [h] at hsh
    have hr : nv xs = v := by unfold nv; rw [h]; rfl
    rw [hr]
    have C1 : Hid (Calls Tryd.prog 34 #[.string (strOfNums xs)] w fun e w' => e = .returned (.tuple #[.int .i64 v, .nilIface]) ∧ Below w.heap.size w w') :=
      (Tryd.strconv_Atoi_ok (strOfNums xs) (by omega) v hsh w).mono (by
        rintro e w' ⟨rfl, hw⟩
        refine ⟨rfl, ?_⟩
        rcases hw with rfl | ⟨t, rfl⟩
        · exact Below.refl _ _
        · exact Lib.bytesWorld_below _ _ _)
    clear hsh hr h
    go_enter Tryd.func28, Tryd.ntmps28
    go_wp2_with (go_at_call 34; refine C1.out.mono ?_; rintro e w1 ⟨rfl, hb1⟩)
    go_ret
    exact ⟨rfl, hb1⟩
  | none =>
    rw [h] at hsh
    have hr : nv xs = 0 := by unfold nv; rw [h]; rfl
    rw [hr]
    obtain ⟨tp, p, hv⟩ := hE
    have C1 : Hid (Calls Tryd.prog 34 #[.string (strOfNums xs)] w fun e w' => ∃ t q, e = .returned (.tuple #[.int .i64 0, .iface t (.pointer (some q))]) ∧ Below w.heap.size w w') :=
      (Tryd.strconv_Atoi_syntax_var (strOfNums xs) (by omega) hsh tp p w hv).mono (by
        rintro e w' ⟨N, rfl, _, _, hb⟩
        exact ⟨_, _, rfl, hb⟩)
    clear hsh hr h
    go_enter Tryd.func28, Tryd.ntmps28
    go_wp2_with (go_at_call 34; refine C1.out.mono ?_; rintro e w1 ⟨t, q, rfl, hb1⟩)
    go_ret
    exact ⟨rfl, hb1⟩
/-- A result's cells, made and not yet given out. -/
structure Out (w v : World) : Prop where
  zero : DateAt v w.heap.size 0 0 0
  free : ∀ j, v.frozen? ⟨w.heap.size, j, none⟩ = false
  below : Below w.heap.size w v
  lt : w.heap.size < v.heap.size
theorem Out.made (w : World) (t : TypeId) : Out w (w.alloc (Obj.cells #[Value.int IntKind.i64 0, Value.int IntKind.i64 0, Value.int IntKind.i64 0] t)) :=
  ⟨DateAt.made w t 0 0 0, fun j => by
    have : (w.alloc (Obj.cells #[Value.int IntKind.i64 0, Value.int IntKind.i64 0, Value.int IntKind.i64 0] t)).heap[w.heap.size]? = some (.cells #[Value.int IntKind.i64 0, Value.int IntKind.i64 0, Value.int IntKind.i64 0] t (0, 0)) := by
      show (w.heap.push _)[w.heap.size]? = _
      simp
    unfold World.frozen?; rw [this]; simp, (Below.refl _ _).alloc (Nat.le_refl _) _, by simp⟩
theorem Out.step {w v v' : World} (h : Out w v) (hb : Below v.heap.size v v') : Out w v' :=
  ⟨h.zero.below hb h.lt, fun j => (hb.frozen (p := ⟨w.heap.size, j, none⟩) h.lt).trans (h.free j), h.below.trans (hb.mono h.below.size), Nat.lt_of_lt_of_le h.lt hb.size⟩
theorem Out.past {w v : World} (h : Out w v) (o : Obj) : Out w (v.alloc o) := h.step ((Below.refl _ _).alloc (Nat.le_refl _) o)
theorem parse_len {xs : List Int} {y m d : Int} (h : parseN xs = some (y, m, d)) : xs.length = 10 ∨ xs.length = 11 := by
  obtain ⟨_, rfl⟩ := parse_some h
  unfold txt
  split
  · right; simp [body_len]
  · left; exact body_len y m d
theorem pd_ne (k : Nat) (n : Int) : pd (k + 1) n ≠ [] := by simp [pd]
theorem cand10 {xs : List Int} {y m d : Int} (h : parseN xs = some (y, m, d)) (hl : xs.length = 10) : nv (xs.take 4) = y ∧ nv ((xs.drop 5).take 2) = m ∧ nv (xs.drop 8) = d := by
  obtain ⟨hg, rfl⟩ := parse_some h
  have a1 := hg.month; have a2 := hg.day
  unfold txt at *
  by_cases hn : y < 0
  · rw [if_pos hn] at hl; simp [body_len] at hl
  · rw [if_neg hn]
    obtain ⟨p1, p2, p3⟩ := body_parts y m d
    have hab := hg.ab
    have e : ab y = y := if_neg hn
    rw [p1, p2, p3, nv_dig (pd_dig _ _) (pd_ne _ _), nv_dig (pd_dig _ _) (pd_ne _ _), nv_dig (pd_dig _ _) (pd_ne _ _), vl_pd4 _ hab.1 hab.2, vl_pd2 _ (by omega) (by omega), vl_pd2 _ (by omega) (by omega)]
    exact ⟨e, rfl, rfl⟩
theorem cand11 {xs : List Int} {y m d : Int} (h : parseN xs = some (y, m, d)) (hl : xs.length = 11) : nv (xs.take 5) = y ∧ nv ((xs.drop 6).take 2) = m ∧ nv (xs.drop 9) = d := by
  obtain ⟨hg, rfl⟩ := parse_some h
  have a1 := hg.month; have a2 := hg.day
  unfold txt at *
  by_cases hn : y < 0
  · rw [if_pos hn]
    obtain ⟨p1, p2, p3⟩ := body_parts y m d
    have hab := hg.ab
    have e : ab y = -y := if_pos hn
    show nv (45 :: (body y m d).take 4) = y ∧ nv (((body y m d).drop 5).take 2) = m ∧ nv ((body y m d).drop 8) = d
    rw [p1, p2, p3, nv_neg (pd_dig _ _) (pd_ne _ _), nv_dig (pd_dig _ _) (pd_ne _ _), nv_dig (pd_dig _ _) (pd_ne _ _), vl_pd4 _ hab.1 hab.2, vl_pd2 _ (by omega) (by omega), vl_pd2 _ (by omega) (by omega)]
    exact ⟨by omega, rfl, rfl⟩
  · rw [if_neg hn] at hl; simp [body_len] at hl
set_option maxHeartbeats 1000000 in
theorem parse_10 (xs : List Int) (w : World) (hR : Ready w) (hE : ErrSyn w) (hb : ∀ z ∈ xs, 0 ≤ z ∧ z ≤ 255) (hl : xs.length = 10) :
    Calls Tryd.prog 12 #[.string (strOfNums xs)] w fun e w' => ((∀ y m d, parseN xs = some (y, m, d) → e = .returned (.tuple #[.agg #[.int .i64 y, .int .i64 m, .int .i64 d], .int .i64 0])) ∧ (parseN xs = none → e = .returned (.tuple #[.agg #[.int .i64 0, .int .i64 0, .int .i64 0], .int .i64 3]))) ∧ Below w.heap.size w w' := by
  have hsz := strOfNums_size xs
  rw [hl] at hsz
  have HB : Hid (∀ z ∈ xs, 0 ≤ z ∧ z ≤ 255) := hb
  have HL : Hid (xs.length = 10) := hl
  have RR : Hid (Ready w) := hR
  have EE : Hid (ErrSyn w) := hE
  obtain ⟨S, hS⟩ : ∃ S, S = strOfNums xs := ⟨_, rfl⟩
  have HS : Hid (S = strOfNums xs) := hS
  obtain ⟨A1, hA1⟩ : ∃ A, A = S.extract 0 4 := ⟨_, rfl⟩
  obtain ⟨A2, hA2⟩ : ∃ A, A = S.extract 5 7 := ⟨_, rfl⟩
  obtain ⟨A3, hA3⟩ : ∃ A, A = S.extract 8 10 := ⟨_, rfl⟩
  have HA1 : Hid (A1 = strOfNums (xs.take 4)) := by show _ = _; rw [hA1, hS, nums_cut]; rfl
  have HA2 : Hid (A2 = strOfNums ((xs.drop 5).take 2)) := by show _ = _; rw [hA2, hS, nums_cut]
  have HA3 : Hid (A3 = strOfNums (xs.drop 8)) := by show _ = _; rw [hA3, hS, nums_cut, List.take_of_length_le (by rw [List.length_drop, hl]; omega)]
  have e1 := hA1.symm
  have e2 := hA2.symm
  have e3 := hA3.symm
  rw [← hS] at hsz ⊢
  obtain ⟨Y, hY⟩ : ∃ D, D = nv (xs.take 4) := ⟨_, rfl⟩
  obtain ⟨M, hM⟩ : ∃ D, D = nv ((xs.drop 5).take 2) := ⟨_, rfl⟩
  obtain ⟨D, hD⟩ : ∃ D, D = nv (xs.drop 8) := ⟨_, rfl⟩
  have b1 : -9223372036854775808 ≤ Y ∧ Y ≤ 9223372036854775807 := by rw [hY]; exact nv_range _ (by simp; omega)
  have b2 : -9223372036854775808 ≤ M ∧ M ≤ 9223372036854775807 := by rw [hM]; exact nv_range _ (by simp; omega)
  have b3 : -9223372036854775808 ≤ D ∧ D ≤ 9223372036854775807 := by rw [hD]; exact nv_range _ (by rw [List.length_drop, hl]; omega)
  have G1 : Hid (∀ v, ErrSyn v → Calls Tryd.prog 28 #[.string A1] v fun e w' => e = .returned (.int .i64 Y) ∧ Below v.heap.size v w') := fun v h => by rw [HA1.out, hY]; exact number_any _ v h (by simp; omega)
  have G2 : Hid (∀ v, ErrSyn v → Calls Tryd.prog 28 #[.string A2] v fun e w' => e = .returned (.int .i64 M) ∧ Below v.heap.size v w') := fun v h => by rw [HA2.out, hM]; exact number_any _ v h (by simp; omega)
  have G3 : Hid (∀ v, ErrSyn v → Calls Tryd.prog 28 #[.string A3] v fun e w' => e = .returned (.int .i64 D) ∧ Below v.heap.size v w') := fun v h => by rw [HA3.out, hD]; exact number_any _ v h (by rw [List.length_drop, hl]; omega)
  have HC : Hid (∀ y m d, parseN xs = some (y, m, d) → Y = y ∧ M = m ∧ D = d) := fun y m d h => by rw [hY, hM, hD]; exact cand10 h hl
  obtain ⟨R, hRt⟩ : ∃ R, R = strOfNums (if Gd Y M D then txt Y M D else []) := ⟨_, rfl⟩
  have HR : Hid (R = strOfNums (if Gd Y M D then txt Y M D else [])) := hRt
  have RT : Hid (∀ v, Ready v → Calls Tryd.prog 16 #[.agg #[.int .i64 Y, .int .i64 M, .int .i64 D]] v fun e w' => e = .returned (.string R) ∧ Below v.heap.size v w') := fun v h => by rw [hRt]; exact text_any Y M D v h b1.1 b1.2 b2.1 b2.2 b3.1 b3.2
  clear hA1 hA2 hA3 hS hY hM hD hRt hb hl hR hE b1 b2 b3
  by_cases hok : Gd Y M D ∧ txt Y M D = xs
  · have HPS : Hid (parseN xs = some (Y, M, D)) := by rw [← hok.2]; exact parse_txt hok.1
    have heq : (R.toList == S.toList) = true := by
      rw [HR.out, HS.out, if_pos hok.1, hok.2]; simp
    clear hok
    go_enter Tryd.func12, Tryd.ntmps12
    go_wp2
    go_quiet (fail)
    obtain ⟨v, hv⟩ : ∃ v, v = (w.alloc (Obj.cells #[Value.int IntKind.i64 0, Value.int IntKind.i64 0, Value.int IntKind.i64 0] 27)).drewN nq := ⟨_, rfl⟩
    have OV : Hid (Out w v) := by rw [hv]; exact (Out.made w 27).step (below_dN (Below.refl _ _) nq)
    rw [← hv]
    clear hv
    go_wp2_with (first | (go_at_call 16; have hgo := O3.out; clear hgo; refine (RT.out _ (RR.out.on (O3.out.past _).below)).mono ?_; rintro e w4 ⟨rfl, hb4⟩; have O4 : Hid (Out w w4) := (O3.out.past _).step hb4; have P4 : Hid (DateAt w4 w3.heap.size Y M D) := (DateAt.made w3 27 Y M D).below hb4 (by simp); have z0 := O4.out.zero.c0; have z1 := O4.out.zero.c1; have z2 := O4.out.zero.c2; have f0 := O4.out.free 0; have f1 := O4.out.free 1; have f2 := O4.out.free 2; have p0 := P4.out.c0; have p1 := P4.out.c1; have p2 := P4.out.c2; clear hb4) | (go_at_call 28; have hgo := O2.out; clear hgo; refine (G3.out _ (EE.out.on O2.out.below)).mono ?_; rintro e w3 ⟨rfl, hb3⟩; have O3 : Hid (Out w w3) := O2.out.step hb3; clear hb3) | (go_at_call 28; have hgo := O1.out; clear hgo; refine (G2.out _ (EE.out.on O1.out.below)).mono ?_; rintro e w2 ⟨rfl, hb2⟩; have O2 : Hid (Out w w2) := O1.out.step hb2; clear hb2) | (go_at_call 28; refine (G1.out _ (EE.out.on OV.out.below)).mono ?_; rintro e w1 ⟨rfl, hb1⟩; have O1 : Hid (Out w w1) := OV.out.step hb1; clear hb1))
    obtain ⟨r0, r1, r2⟩ := set_same3 (DateAt.mk z0 z1 z2)
    (try simp only [Exit.inBlock, Exit.then])
    refine bodyPost_ret (v := .tuple #[.agg #[.int .i64 Y, .int .i64 M, .int .i64 D], .int .i64 0]) (by simp [results, Tryd.results12, go_sem, r0, r1, r2]) rfl ?_
    refine ⟨⟨fun y m d h => ?_, fun h => absurd h (by rw [HPS.out]; simp)⟩, ((O4.out.below.setCell (Nat.le_refl _) _).setCell (Nat.le_refl _) _).setCell (Nat.le_refl _) _⟩
    rw [HPS.out] at h
    cases h
    rfl
  · have NO : Hid (∀ y m d, ¬ parseN xs = some (y, m, d)) := fun y m d h => by
      obtain ⟨e1, e2, e3⟩ := HC.out y m d h
      apply hok
      have := parse_some h
      rw [e1, e2, e3]; exact this
    have heq : (R.toList == S.toList) = false := by
      rw [HR.out, HS.out]
      simp only [beq_eq_false_iff_ne, ne_eq]
      intro he
      by_cases hg : Gd Y M D
      · rw [if_pos hg] at he
        exact hok ⟨hg, str_inj (txt_by hg) HB.out he⟩
      · rw [if_neg hg] at he
        have := str_inj (fun z hz => by simp at hz) HB.out he
        have hl' := HL.out
        rw [← this] at hl'
        simp at hl'
    clear hok
    go_enter Tryd.func12, Tryd.ntmps12
    go_wp2
    go_quiet (fail)
    obtain ⟨v, hv⟩ : ∃ v, v = (w.alloc (Obj.cells #[Value.int IntKind.i64 0, Value.int IntKind.i64 0, Value.int IntKind.i64 0] 27)).drewN nq := ⟨_, rfl⟩
    have OV : Hid (Out w v) := by rw [hv]; exact (Out.made w 27).step (below_dN (Below.refl _ _) nq)
    rw [← hv]
    clear hv
    go_wp2_with (first | (go_at_call 16; have hgo := O3.out; clear hgo; refine (RT.out _ (RR.out.on (O3.out.past _).below)).mono ?_; rintro e w4 ⟨rfl, hb4⟩; have O4 : Hid (Out w w4) := (O3.out.past _).step hb4; have P4 : Hid (DateAt w4 w3.heap.size Y M D) := (DateAt.made w3 27 Y M D).below hb4 (by simp); have z0 := O4.out.zero.c0; have z1 := O4.out.zero.c1; have z2 := O4.out.zero.c2; have f0 := O4.out.free 0; have f1 := O4.out.free 1; have f2 := O4.out.free 2; have p0 := P4.out.c0; have p1 := P4.out.c1; have p2 := P4.out.c2; clear hb4) | (go_at_call 28; have hgo := O2.out; clear hgo; refine (G3.out _ (EE.out.on O2.out.below)).mono ?_; rintro e w3 ⟨rfl, hb3⟩; have O3 : Hid (Out w w3) := O2.out.step hb3; clear hb3) | (go_at_call 28; have hgo := O1.out; clear hgo; refine (G2.out _ (EE.out.on O1.out.below)).mono ?_; rintro e w2 ⟨rfl, hb2⟩; have O2 : Hid (Out w w2) := O1.out.step hb2; clear hb2) | (go_at_call 28; refine (G1.out _ (EE.out.on OV.out.below)).mono ?_; rintro e w1 ⟨rfl, hb1⟩; have O1 : Hid (Out w w1) := OV.out.step hb1; clear hb1))
    obtain ⟨r0, r1, r2⟩ := set_same3 (DateAt.mk z0 z1 z2)
    (try simp only [Exit.inBlock, Exit.then])
    refine bodyPost_ret (v := .tuple #[.agg #[.int .i64 0, .int .i64 0, .int .i64 0], .int .i64 3]) (by simp [results, Tryd.results12, go_sem, r0, r1, r2]) rfl ?_
    exact ⟨⟨fun y m d h => absurd h (NO.out y m d), fun _ => rfl⟩, ((O4.out.below.setCell (Nat.le_refl _) _).setCell (Nat.le_refl _) _).setCell (Nat.le_refl _) _⟩
set_option maxHeartbeats 1000000 in
theorem parse_11 (xs : List Int) (w : World) (hR : Ready w) (hE : ErrSyn w) (hb : ∀ z ∈ xs, 0 ≤ z ∧ z ≤ 255) (hl : xs.length = 11) :
    Calls Tryd.prog 12 #[.string (strOfNums xs)] w fun e w' => ((∀ y m d, parseN xs = some (y, m, d) → e = .returned (.tuple #[.agg #[.int .i64 y, .int .i64 m, .int .i64 d], .int .i64 0])) ∧ (parseN xs = none → e = .returned (.tuple #[.agg #[.int .i64 0, .int .i64 0, .int .i64 0], .int .i64 3]))) ∧ Below w.heap.size w w' := by
  have hsz := strOfNums_size xs
  rw [hl] at hsz
  have HB : Hid (∀ z ∈ xs, 0 ≤ z ∧ z ≤ 255) := hb
  have HL : Hid (xs.length = 11) := hl
  have RR : Hid (Ready w) := hR
  have EE : Hid (ErrSyn w) := hE
  obtain ⟨S, hS⟩ : ∃ S, S = strOfNums xs := ⟨_, rfl⟩
  have HS : Hid (S = strOfNums xs) := hS
  obtain ⟨A1, hA1⟩ : ∃ A, A = S.extract 0 5 := ⟨_, rfl⟩
  obtain ⟨A2, hA2⟩ : ∃ A, A = S.extract 6 8 := ⟨_, rfl⟩
  obtain ⟨A3, hA3⟩ : ∃ A, A = S.extract 9 11 := ⟨_, rfl⟩
  have HA1 : Hid (A1 = strOfNums (xs.take 5)) := by show _ = _; rw [hA1, hS, nums_cut]; rfl
  have HA2 : Hid (A2 = strOfNums ((xs.drop 6).take 2)) := by show _ = _; rw [hA2, hS, nums_cut]
  have HA3 : Hid (A3 = strOfNums (xs.drop 9)) := by show _ = _; rw [hA3, hS, nums_cut, List.take_of_length_le (by rw [List.length_drop, hl]; omega)]
  have e1 := hA1.symm
  have e2 := hA2.symm
  have e3 := hA3.symm
  rw [← hS] at hsz ⊢
  obtain ⟨Y, hY⟩ : ∃ D, D = nv (xs.take 5) := ⟨_, rfl⟩
  obtain ⟨M, hM⟩ : ∃ D, D = nv ((xs.drop 6).take 2) := ⟨_, rfl⟩
  obtain ⟨D, hD⟩ : ∃ D, D = nv (xs.drop 9) := ⟨_, rfl⟩
  have b1 : -9223372036854775808 ≤ Y ∧ Y ≤ 9223372036854775807 := by rw [hY]; exact nv_range _ (by simp; omega)
  have b2 : -9223372036854775808 ≤ M ∧ M ≤ 9223372036854775807 := by rw [hM]; exact nv_range _ (by simp; omega)
  have b3 : -9223372036854775808 ≤ D ∧ D ≤ 9223372036854775807 := by rw [hD]; exact nv_range _ (by rw [List.length_drop, hl]; omega)
  have G1 : Hid (∀ v, ErrSyn v → Calls Tryd.prog 28 #[.string A1] v fun e w' => e = .returned (.int .i64 Y) ∧ Below v.heap.size v w') := fun v h => by rw [HA1.out, hY]; exact number_any _ v h (by simp; omega)
  have G2 : Hid (∀ v, ErrSyn v → Calls Tryd.prog 28 #[.string A2] v fun e w' => e = .returned (.int .i64 M) ∧ Below v.heap.size v w') := fun v h => by rw [HA2.out, hM]; exact number_any _ v h (by simp; omega)
  have G3 : Hid (∀ v, ErrSyn v → Calls Tryd.prog 28 #[.string A3] v fun e w' => e = .returned (.int .i64 D) ∧ Below v.heap.size v w') := fun v h => by rw [HA3.out, hD]; exact number_any _ v h (by rw [List.length_drop, hl]; omega)
  have HC : Hid (∀ y m d, parseN xs = some (y, m, d) → Y = y ∧ M = m ∧ D = d) := fun y m d h => by rw [hY, hM, hD]; exact cand11 h hl
  obtain ⟨R, hRt⟩ : ∃ R, R = strOfNums (if Gd Y M D then txt Y M D else []) := ⟨_, rfl⟩
  have HR : Hid (R = strOfNums (if Gd Y M D then txt Y M D else [])) := hRt
  have RT : Hid (∀ v, Ready v → Calls Tryd.prog 16 #[.agg #[.int .i64 Y, .int .i64 M, .int .i64 D]] v fun e w' => e = .returned (.string R) ∧ Below v.heap.size v w') := fun v h => by rw [hRt]; exact text_any Y M D v h b1.1 b1.2 b2.1 b2.2 b3.1 b3.2
  clear hA1 hA2 hA3 hS hY hM hD hRt hb hl hR hE b1 b2 b3
  by_cases hok : Gd Y M D ∧ txt Y M D = xs
  · have HPS : Hid (parseN xs = some (Y, M, D)) := by rw [← hok.2]; exact parse_txt hok.1
    have heq : (R.toList == S.toList) = true := by
      rw [HR.out, HS.out, if_pos hok.1, hok.2]; simp
    clear hok
    go_enter Tryd.func12, Tryd.ntmps12
    go_wp2
    go_quiet (fail)
    obtain ⟨v, hv⟩ : ∃ v, v = (w.alloc (Obj.cells #[Value.int IntKind.i64 0, Value.int IntKind.i64 0, Value.int IntKind.i64 0] 27)).drewN nq := ⟨_, rfl⟩
    have OV : Hid (Out w v) := by rw [hv]; exact (Out.made w 27).step (below_dN (Below.refl _ _) nq)
    rw [← hv]
    clear hv
    go_wp2_with (first | (go_at_call 16; have hgo := O3.out; clear hgo; refine (RT.out _ (RR.out.on (O3.out.past _).below)).mono ?_; rintro e w4 ⟨rfl, hb4⟩; have O4 : Hid (Out w w4) := (O3.out.past _).step hb4; have P4 : Hid (DateAt w4 w3.heap.size Y M D) := (DateAt.made w3 27 Y M D).below hb4 (by simp); have z0 := O4.out.zero.c0; have z1 := O4.out.zero.c1; have z2 := O4.out.zero.c2; have f0 := O4.out.free 0; have f1 := O4.out.free 1; have f2 := O4.out.free 2; have p0 := P4.out.c0; have p1 := P4.out.c1; have p2 := P4.out.c2; clear hb4) | (go_at_call 28; have hgo := O2.out; clear hgo; refine (G3.out _ (EE.out.on O2.out.below)).mono ?_; rintro e w3 ⟨rfl, hb3⟩; have O3 : Hid (Out w w3) := O2.out.step hb3; clear hb3) | (go_at_call 28; have hgo := O1.out; clear hgo; refine (G2.out _ (EE.out.on O1.out.below)).mono ?_; rintro e w2 ⟨rfl, hb2⟩; have O2 : Hid (Out w w2) := O1.out.step hb2; clear hb2) | (go_at_call 28; refine (G1.out _ (EE.out.on OV.out.below)).mono ?_; rintro e w1 ⟨rfl, hb1⟩; have O1 : Hid (Out w w1) := OV.out.step hb1; clear hb1))
    obtain ⟨r0, r1, r2⟩ := set_same3 (DateAt.mk z0 z1 z2)
    (try simp only [Exit.inBlock, Exit.then])
    refine bodyPost_ret (v := .tuple #[.agg #[.int .i64 Y, .int .i64 M, .int .i64 D], .int .i64 0]) (by simp [results, Tryd.results12, go_sem, r0, r1, r2]) rfl ?_
    refine ⟨⟨fun y m d h => ?_, fun h => absurd h (by rw [HPS.out]; simp)⟩, ((O4.out.below.setCell (Nat.le_refl _) _).setCell (Nat.le_refl _) _).setCell (Nat.le_refl _) _⟩
    rw [HPS.out] at h
    cases h
    rfl
  · have NO : Hid (∀ y m d, ¬ parseN xs = some (y, m, d)) := fun y m d h => by
      obtain ⟨e1, e2, e3⟩ := HC.out y m d h
      apply hok
      have := parse_some h
      rw [e1, e2, e3]; exact this
    have heq : (R.toList == S.toList) = false := by
      rw [HR.out, HS.out]
      simp only [beq_eq_false_iff_ne, ne_eq]
      intro he
      by_cases hg : Gd Y M D
      · rw [if_pos hg] at he
        exact hok ⟨hg, str_inj (txt_by hg) HB.out he⟩
      · rw [if_neg hg] at he
        have := str_inj (fun z hz => by simp at hz) HB.out he
        have hl' := HL.out
        rw [← this] at hl'
        simp at hl'
    clear hok
    go_enter Tryd.func12, Tryd.ntmps12
    go_wp2
    go_quiet (fail)
    obtain ⟨v, hv⟩ : ∃ v, v = (w.alloc (Obj.cells #[Value.int IntKind.i64 0, Value.int IntKind.i64 0, Value.int IntKind.i64 0] 27)).drewN nq := ⟨_, rfl⟩
    have OV : Hid (Out w v) := by rw [hv]; exact (Out.made w 27).step (below_dN (Below.refl _ _) nq)
    rw [← hv]
    clear hv
    go_wp2_with (first | (go_at_call 16; have hgo := O3.out; clear hgo; refine (RT.out _ (RR.out.on (O3.out.past _).below)).mono ?_; rintro e w4 ⟨rfl, hb4⟩; have O4 : Hid (Out w w4) := (O3.out.past _).step hb4; have P4 : Hid (DateAt w4 w3.heap.size Y M D) := (DateAt.made w3 27 Y M D).below hb4 (by simp); have z0 := O4.out.zero.c0; have z1 := O4.out.zero.c1; have z2 := O4.out.zero.c2; have f0 := O4.out.free 0; have f1 := O4.out.free 1; have f2 := O4.out.free 2; have p0 := P4.out.c0; have p1 := P4.out.c1; have p2 := P4.out.c2; clear hb4) | (go_at_call 28; have hgo := O2.out; clear hgo; refine (G3.out _ (EE.out.on O2.out.below)).mono ?_; rintro e w3 ⟨rfl, hb3⟩; have O3 : Hid (Out w w3) := O2.out.step hb3; clear hb3) | (go_at_call 28; have hgo := O1.out; clear hgo; refine (G2.out _ (EE.out.on O1.out.below)).mono ?_; rintro e w2 ⟨rfl, hb2⟩; have O2 : Hid (Out w w2) := O1.out.step hb2; clear hb2) | (go_at_call 28; refine (G1.out _ (EE.out.on OV.out.below)).mono ?_; rintro e w1 ⟨rfl, hb1⟩; have O1 : Hid (Out w w1) := OV.out.step hb1; clear hb1))
    obtain ⟨r0, r1, r2⟩ := set_same3 (DateAt.mk z0 z1 z2)
    (try simp only [Exit.inBlock, Exit.then])
    refine bodyPost_ret (v := .tuple #[.agg #[.int .i64 0, .int .i64 0, .int .i64 0], .int .i64 3]) (by simp [results, Tryd.results12, go_sem, r0, r1, r2]) rfl ?_
    exact ⟨⟨fun y m d h => absurd h (NO.out y m d), fun _ => rfl⟩, ((O4.out.below.setCell (Nat.le_refl _) _).setCell (Nat.le_refl _) _).setCell (Nat.le_refl _) _⟩
theorem parse_any (xs : List Int) (w : World) (hR : Ready w) (hE : ErrSyn w) (hb : ∀ z ∈ xs, 0 ≤ z ∧ z ≤ 255) (hl : xs.length ≤ 3000) :
    Calls Tryd.prog 12 #[.string (strOfNums xs)] w fun e w' => ((∀ y m d, parseN xs = some (y, m, d) → e = .returned (.tuple #[.agg #[.int .i64 y, .int .i64 m, .int .i64 d], .int .i64 0])) ∧ (parseN xs = none → e = .returned (.tuple #[.agg #[.int .i64 0, .int .i64 0, .int .i64 0], .int .i64 3]))) ∧ Below w.heap.size w w' := by
  by_cases h1 : xs.length = 10
  · exact parse_10 xs w hR hE hb h1
  · by_cases h2 : xs.length = 11
    · exact parse_11 xs w hR hE hb h2
    · have NO : Hid (∀ y m d, ¬ parseN xs = some (y, m, d)) := fun y m d h => by have := parse_len h; omega
      have hsz := strOfNums_size xs
      obtain ⟨len, hlen⟩ : ∃ len, len = xs.length := ⟨_, rfl⟩
      rw [← hlen] at hsz hl h1 h2
      obtain ⟨S, hS⟩ : ∃ S, S = strOfNums xs := ⟨_, rfl⟩
      rw [← hS] at hsz ⊢
      clear hS hlen hb hR hE
      go_enter Tryd.func12, Tryd.ntmps12
      by_cases h3 : len < 10
      · go_wp2
        go_returns
        exact ⟨⟨fun y m d h => absurd h (NO.out y m d), fun _ => rfl⟩, (Below.refl _ _).alloc (Nat.le_refl _) _⟩
      · have h4 : 11 < len := by omega
        go_wp2
        go_returns
        exact ⟨⟨fun y m d h => absurd h (NO.out y m d), fun _ => rfl⟩, (Below.refl _ _).alloc (Nat.le_refl _) _⟩
end Go.Proofs.YtglommaegcaodaaDoor
